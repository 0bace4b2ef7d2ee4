import PyProof.Rows.All
import Wide.All
import OpenK.AllK
import Wide.FinOn
import HandS.Base
import HandS.Call
import HandS.List
import HandS.Comp
import HandS.Ends
import HandS.Dict
import HandS.Iter
import HandS.Text
import HandS.Words
import HandS.WordsList
import HandS.Codes
import PySem.Challenge.RW_aheadbook_k04_rows_between
import HandS.Style
import HandS.TupAny
import KE.SortData
import PyProof.Rows.SetFrom
import HandS.Strs
import PyProof.EnumMake
import PyProof.Draws
import KE.GoesMore
import PyProof.EqAt
import PyProof.EqKinds
import PyProof.TupleCall
import HandS.Exc
import HandS.ExcOwn
import HandS.WordsExc
import HandS.TryOnly
import HandS.IsInst
import HandS.DictComp
import HandS.DictSub
import HandS.Zip0
import KE.KDictZip
import HandS.WordsDict
import PyProof.NeKinds
import KE.KEqDict
set_option Elab.async false
set_option linter.all false
set_option maxRecDepth 100000
set_option maxHeartbeats 2000000
namespace Ah
open PySem PySem.Spec PyProof.Rows L2
/-! ### heaps that keep all but one object -/
def Kp (p : Addr) (H H' : Hp) : Prop := ∀ b o, b ≠ p → H b = some o → H' b = some o
theorem Kp.refl (p : Addr) (H : Hp) : Kp p H H := fun _ _ _ h => h
theorem Kp.trans {p : Addr} {H H1 H2 : Hp} (a : Kp p H H1) (b : Kp p H1 H2) : Kp p H H2 := fun c o n h => b c o n (a c o n h)
theorem Kp.same {p : Addr} {H H' : Hp} (a : Same H H') : Kp p H H' := fun c o _ h => a c o h
theorem Kp.new {p q : Addr} {H : Hp} {o : HO} (h : H q = none) : Kp p H (upd H q o) := fun b x _ e => by
  rw [upd_ne (ne_of_none e h)]
  exact e
theorem Kp.put {p : Addr} {H : Hp} {o : HO} : Kp p H (upd H p o) := fun b x n e => by
  rw [upd_ne n]
  exact e
/-- what is not tracked at first may change -/
theorem Kp.mut {p q : Addr} {H H' : Hp} {o : HO} (k : Kp p H H') (h : H q = none) : Kp p H (upd H' q o) := fun b x n e => by
  rw [upd_ne (ne_of_none e h)]
  exact k b x n e
theorem same_new {q : Addr} {H : Hp} {o : HO} (h : H q = none) : Same H (upd H q o) := fun b x e => by
  rw [upd_ne (ne_of_none e h)]
  exact e
theorem same_mut {q : Addr} {H H' : Hp} {o : HO} (k : Same H H') (h : H q = none) : Same H (upd H' q o) := fun b x e => by
  rw [upd_ne (ne_of_none e h)]
  exact k b x e
theorem rd_kp {p a : Addr} {u : HO} {H H' : Hp} (k : Kp p H H') {kvs : List (Key × V)} (hp : H p = some (.dK kvs)) (hu : ∀ kvs, u ≠ .dK kvs) (h : Rd H a u) : Rd H' a u := by
  rcases h with h | ⟨o, h⟩
  · refine .inl (k a _ (fun e => ?_) h)
    rw [e, hp] at h
    exact hu _ (Option.some.inj h).symm
  · refine .inr ⟨o, k a _ (fun e => ?_) h⟩
    rw [e, hp] at h
    cases h
theorem seq_kp {K : PySem.W.Frag} {p a : Addr} {xs : List V} {H H' : Hp} (k : Kp p H H') {kvs : List (Key × V)} (hp : H p = some (.dK kvs)) (h : SqL K H a xs) : SqL K H' a xs := by
  rcases h with h | h
  · exact .inl (rd_kp k hp (fun _ z => by cases z) h)
  · exact .inr h
theorem tup_kp {K : PySem.W.Frag} {p a : Addr} {xs : List V} {H H' : Hp} (k : Kp p H H') {kvs : List (Key × V)} (hp : H p = some (.dK kvs)) (h : SqT K H a xs) : SqT K H' a xs := by
  rcases h with h | h
  · exact .inl (rd_kp k hp (fun _ z => by cases z) h)
  · exact .inr h
theorem tup_same {K : PySem.W.Frag} {a : Addr} {xs : List V} {H H' : Hp} (k : Same H H') (h : SqT K H a xs) : SqT K H' a xs := by
  rcases h with (h | ⟨o, h⟩) | h
  · exact .inl (.inl (k _ _ h))
  · exact .inl (.inr ⟨o, k _ _ h⟩)
  · exact .inr h
/-! ### the pen -/
def penK (c : Addr) (a l : Int) : List (Key × V) := [(.inr "cells", .ref c), (.inr "at", .int a), (.inr "left", .int l)]
def PenAt (H : Hp) (p c : Addr) (n : Nat) : Prop := ∃ (ns : List Int) (a l : Int), H p = some (.dK (penK c a l)) ∧ H c = some (.lst (ns.map V.int)) ∧ 0 ≤ a ∧ a ≤ n ∧ 0 ≤ l
theorem k_ca : ¬ (("cells" : Str) = "at") := by decide +kernel
theorem k_cl : ¬ (("cells" : Str) = "left") := by decide +kernel
theorem k_al : ¬ (("at" : Str) = "left") := by decide +kernel
theorem pen_cells (c : Addr) (a l : Int) : valV (penK c a l) (.inr "cells" : Key) = some (.ref c) := valV_pos rfl
theorem pen_at (c : Addr) (a l : Int) : valV (penK c a l) (.inr "at" : Key) = some (.int a) := (valV_neg fun e => k_ca (Sum.inr.inj e)).trans (valV_pos rfl)
theorem pen_left (c : Addr) (a l : Int) : valV (penK c a l) (.inr "left" : Key) = some (.int l) := (valV_neg fun e => k_cl (Sum.inr.inj e)).trans ((valV_neg fun e => k_al (Sum.inr.inj e)).trans (valV_pos rfl))
theorem pen_putAt (c : Addr) (a l b : Int) : putK (penK c a l) (.inr "at" : Key) (.int b) = penK c b l := by
  have h : ((penK c a l).any fun kv => decide (kv.1 = (.inr "at" : Key))) = true := by rw [valV_any, pen_at]; rfl
  unfold putK
  rw [if_pos h]
  show [if (Sum.inr ("cells" : Str) : Key) = Sum.inr ("at" : Str) then ((Sum.inr ("cells" : Str) : Key), V.int b) else (Sum.inr ("cells" : Str), V.ref c), if (Sum.inr ("at" : Str) : Key) = Sum.inr ("at" : Str) then ((Sum.inr ("at" : Str) : Key), V.int b) else (Sum.inr ("at" : Str), V.int a), if (Sum.inr ("left" : Str) : Key) = Sum.inr ("at" : Str) then ((Sum.inr ("left" : Str) : Key), V.int b) else (Sum.inr ("left" : Str), V.int l)] = penK c b l
  rw [if_neg (fun e => k_ca (Sum.inr.inj e)), if_pos rfl, if_neg (fun e => k_al (Sum.inr.inj e).symm)]
  rfl
theorem pen_putLeft (c : Addr) (a l b : Int) : putK (penK c a l) (.inr "left" : Key) (.int b) = penK c a b := by
  have h : ((penK c a l).any fun kv => decide (kv.1 = (.inr "left" : Key))) = true := by rw [valV_any, pen_left]; rfl
  unfold putK
  rw [if_pos h]
  show [if (Sum.inr ("cells" : Str) : Key) = Sum.inr ("left" : Str) then ((Sum.inr ("cells" : Str) : Key), V.int b) else (Sum.inr ("cells" : Str), V.ref c), if (Sum.inr ("at" : Str) : Key) = Sum.inr ("left" : Str) then ((Sum.inr ("at" : Str) : Key), V.int b) else (Sum.inr ("at" : Str), V.int a), if (Sum.inr ("left" : Str) : Key) = Sum.inr ("left" : Str) then ((Sum.inr ("left" : Str) : Key), V.int b) else (Sum.inr ("left" : Str), V.int l)] = penK c a b
  rw [if_neg (fun e => k_cl (Sum.inr.inj e)), if_neg (fun e => k_al (Sum.inr.inj e)), if_pos rfl]
  rfl
theorem PenAt.mono {H : Hp} {p c : Addr} {n m : Nat} (h : PenAt H p c n) (hm : n ≤ m) : PenAt H p c m := by
  obtain ⟨ns, a, l, h1, h2, h3, h4, h5⟩ := h
  exact ⟨ns, a, l, h1, h2, h3, by omega, h5⟩
theorem PenAt.keep {H H' : Hp} {p c : Addr} {n : Nat} (h : PenAt H p c n) (k : Same H H') : PenAt H' p c n := by
  obtain ⟨ns, a, l, h1, h2, h3, h4, h5⟩ := h
  exact ⟨ns, a, l, k _ _ h1, k _ _ h2, h3, h4, h5⟩
theorem PenAt.dk {H : Hp} {p c : Addr} {n : Nat} (h : PenAt H p c n) : ∃ kvs : List (Key × V), H p = some (.dK kvs) := by
  obtain ⟨ns, a, l, h1, _⟩ := h
  exact ⟨_, h1⟩
/-- an object that was not there when the pen stood is changed -/
theorem PenAt.mut {H H' : Hp} {p c q : Addr} {n m : Nat} {o : HO} (h : PenAt H p c n) (hq : H q = none) (h' : PenAt H' p c m) : PenAt (upd H' q o) p c m := by
  obtain ⟨_, _, _, g1, g2, _⟩ := h
  obtain ⟨ns, a, l, h1, h2, h3, h4, h5⟩ := h'
  exact ⟨ns, a, l, (upd_ne (ne_of_none g1 hq)).trans h1, (upd_ne (ne_of_none g2 hq)).trans h2, h3, h4, h5⟩
theorem Kp.free {H H' : Hp} {p c q : Addr} {n : Nat} (k : Kp p H H') (hp : PenAt H' p c n) (h : H' q = none) : H q = none := by
  obtain ⟨kvs, hk⟩ := hp.dk
  have nq : q ≠ p := fun e => by
    rw [e, hk] at h
    cases h
  cases e : H q with
  | none => rfl
  | some o =>
    rw [k q o nq e] at h
    cases h
/-! ### equal data -/
theorem dp_ints {K : PySem.W.Frag} {H : Hp} : ∀ ns : List Int, DpAll K H (ns.map V.int) (ns.map PyData.int)
  | [] => .nil
  | n :: ns => .cons (.int n) (dp_ints ns)
theorem dp_strs {K : PySem.W.Frag} {H : Hp} : ∀ ns : List Str, DpAll K H (ns.map V.str) (ns.map PyData.str)
  | [] => .nil
  | n :: ns => .cons (.str n) (dp_strs ns)
theorem lay_ints : ∀ ns : List Int, PyData.canLayAll0 (ns.map PyData.int) = true ∧ PyData.depthAll (ns.map PyData.int) ≤ 1
  | [] => ⟨rfl, by simp [PyData.depthAll]⟩
  | n :: ns => by
    obtain ⟨h1, h2⟩ := lay_ints ns
    refine ⟨by simp [PyData.canLayAll0, PyData.canLay0, h1], ?_⟩
    simp only [List.map_cons, PyData.depthAll, PyData.depth]
    omega
theorem lay_strs : ∀ ns : List Str, (∀ x ∈ ns, PyData.strOk x = true) → PyData.canLayAll0 (ns.map PyData.str) = true ∧ PyData.depthAll (ns.map PyData.str) ≤ 1
  | [], _ => ⟨rfl, by simp [PyData.depthAll]⟩
  | n :: ns, h => by
    obtain ⟨h1, h2⟩ := lay_strs ns fun x hx => h x (List.mem_cons_of_mem _ hx)
    refine ⟨by simp [PyData.canLayAll0, PyData.canLay0, h1, h n List.mem_cons_self], ?_⟩
    simp only [List.map_cons, PyData.depthAll, PyData.depth]
    omega
theorem shp_list {ds : List PyData} (h : PyData.canLayAll0 ds = true) (hd : PyData.depthAll ds ≤ 63) : SeqAt.shaped (.list ds) = true := by
  unfold SeqAt.shaped
  simp only [PyData.canLay0, PyData.depth, h, Bool.true_and]
  exact decide_eq_true (by omega)
theorem shp_tup {ds : List PyData} (h : PyData.canLayAll0 ds = true) (hd : PyData.depthAll ds ≤ 63) : SeqAt.shaped (.tuple ds) = true := by
  unfold SeqAt.shaped
  simp only [PyData.canLay0, PyData.depth, h, Bool.true_and]
  exact decide_eq_true (by omega)
theorem shp_ints (ns : List Int) : SeqAt.shaped (.list (ns.map PyData.int)) = true := shp_list (lay_ints ns).1 (Nat.le_trans (lay_ints ns).2 (by decide))
theorem shp_strs {ns : List Str} (h : ∀ x ∈ ns, PyData.strOk x = true) : SeqAt.shaped (.list (ns.map PyData.str)) = true := shp_list (lay_strs ns h).1 (Nat.le_trans (lay_strs ns h).2 (by decide))
theorem shp_strsT {ns : List Str} (h : ∀ x ∈ ns, PyData.strOk x = true) : SeqAt.shaped (.tuple (ns.map PyData.str)) = true := shp_tup (lay_strs ns h).1 (Nat.le_trans (lay_strs ns h).2 (by decide))
theorem shp_nil : SeqAt.shaped (.list []) = true := shp_list rfl (by simp [PyData.depthAll])
theorem eqv_nil {α : Type} (f : α → PyData) (ns : List α) : PyData.eqv (.list (ns.map f)) (.list []) = ns.isEmpty := by
  cases ns with
  | nil => simp [PyData.eqv, PyData.eqvAll]
  | cons n ns => simp [PyData.eqv, PyData.eqvAll]
end Ah
set_option Elab.async false
set_option linter.all false
set_option maxRecDepth 100000
set_option maxHeartbeats 2000000
namespace Ah
open PySem PySem.Spec PyProof.Rows L2
def topS (i : Nat) : Stmt := PySem.Challenge.pw_aheadbook_k04_rows_between.main.body.getD i (.Pass ⟨0, 0, 0, 0⟩)
abbrev sDraw : Stmt := topS 18
/-- the built-in names that the text uses -/
structure Blt (mg : Str → Option Value) : Prop where
  len : mg "len" = none
  abs : mg "abs" = none
  list : mg "list" = none
theorem dg_left {H : Hp} {p c : Addr} {a l : Int} (h : H p = some (.dK (penK c a l))) : DGet H p (.str "left") (some (.int l)) := by
  have q := DGet.k (k := (Sum.inr ("left" : Str) : Key)) h
  rw [pen_left] at q
  exact q
theorem dg_at {H : Hp} {p c : Addr} {a l : Int} (h : H p = some (.dK (penK c a l))) : DGet H p (.str "at") (some (.int a)) := by
  have q := DGet.k (k := (Sum.inr ("at" : Str) : Key)) h
  rw [pen_at] at q
  exact q
theorem dg_cells {H : Hp} {p c : Addr} {a l : Int} (h : H p = some (.dK (penK c a l))) : DGet H p (.str "cells") (some (.ref c)) := by
  have q := DGet.k (k := (Sum.inr ("cells" : Str) : Key)) h
  rw [pen_cells] at q
  exact q
theorem dp_left {H : Hp} {p c : Addr} {a l b : Int} (h : H p = some (.dK (penK c a l))) : DPut H p (.str "left") (.int b) (upd H p (.dK (penK c a b))) := by
  have q := DPut.k (k := (Sum.inr ("left" : Str) : Key)) (v := V.int b) h (by show 3 < sizeLine; decide)
  rw [pen_putLeft] at q
  exact q
theorem dp_at {H : Hp} {p c : Addr} {a l b : Int} (h : H p = some (.dK (penK c a l))) : DPut H p (.str "at") (.int b) (upd H p (.dK (penK c b l))) := by
  have q := DPut.k (k := (Sum.inr ("at" : Str) : Key)) (v := V.int b) h (by show 3 < sizeLine; decide)
  rw [pen_putAt] at q
  exact q
theorem blend_lt {x m : Int} (h : 0 < m) : 0 ≤ x % m ∧ x % m < m := ⟨Int.emod_nonneg _ (by omega), Int.emod_lt_of_pos _ h⟩
section
variable {P : Program} {w : World} {K : PySem.W.Frag} {mg : Str → Option Value} {base : Heap}
theorem scDraw : FnScope ["pen", "many", "digit", "at", "cell", "blend"] ["pen", "many"] (defScope sDraw) := ⟨rfl, rfl, rfl, by decide +kernel, rfl, by decide +kernel, by decide +kernel⟩
def spDraw : Sp := fun vs H Q _ => ∃ (p c : Addr) (m : Int) (n : Nat), vs = [.ref p, .int m] ∧ PenAt H p c n ∧ n < 1000000 ∧ 0 < m ∧ m < 1073741824 ∧
  ∀ (d : Int) (H' : Hp), 0 ≤ d → d < m → PenAt H' p c (n + 1) → Kp p H H' → Q (.int d) H'
theorem ok_draw {f : Addr} {fd : FuncData} (F : Fun K "_law_draw" "_law_draw" sDraw f fd) (B : Blt mg) : FnOk P w K mg base CX0 1 f fd ["pen", "many"] spDraw := by
  refine F.ok scDraw (fun vs H Q E h => ?_) (fun cdv A outer s H vs Q E hr h => ?_)
  · obtain ⟨p, c, m, n, rfl, _⟩ := h
    rfl
  · obtain ⟨p, c, m, n, rfl, ⟨ns, a, l, hp, hc, a0, an, l0⟩, hn, m0, m1, k⟩ := h
    have hu := hu_of hr
    have nd := scDraw.nd
    have ncp : c ≠ p := fun e => by
      rw [e, hp] at hc
      cases hc
    refine ⟨_, pss_cons (ps_if (pt_cmpR op_gt (pe_dget hu (pv 0) pe_str (fun _ _ => rfl)) pe_int (nomark _))
        (pss_cons (ps_set (i := 2) nd rfl (.inl rfl) (pe_op op_mod (pe_dget hu (pv 0) pe_str (fun _ _ => rfl)) (pv 1)))
        (pss_cons (ps_dput hu (pv 0) pe_str (pe_op op_fdiv (pe_dget hu (pv 0) pe_str (fun _ _ => rfl)) (pv 1)) rfl)
        (pss_one (ps_ret (pv 2))))) pss_nil)
      (pss_cons (ps_set (i := 3) nd rfl (.inl rfl) (pe_dget hu (pv 0) pe_str (fun _ _ => rfl)))
      (pss_cons (ps_dput hu (pv 0) pe_str (pe_op op_add (pv 3) pe_int) rfl)
      (pss_cons (ps_set (i := 4) nd rfl (.inl rfl) (pe_op op_add (pe_op op_mul pe_int (pv 3)) pe_int))
      (C8.pss_cut (ps_if (pt_cmpR (op_neD hr.units) (pe_dget hu (pv 0) pe_str (fun _ _ => rfl)) (pe_lst pa_nil) (nomark _))
        (pss_one (ps_set (i := 4) nd rfl (.inl rfl) (pe_ix ix_list (pe_dget hu (pv 0) pe_str (fun _ _ => rfl)) (pe_op op_mod (pv 3) (pe_callB call_len_seq (by rfl) B.len PySem.boot_len (pa_cons (pe_dget hu (pv 0) pe_str (fun _ _ => rfl)) pa_nil))) (fun _ _ => rfl)))) pss_nil)
      (C8.pss_cut (ps_if (PW.pt (pw_and (pt_cmpR op_lt (pv 3) (pe_callB call_len_seq (by rfl) B.len PySem.boot_len (pa_cons (pe_dget hu (pv 0) pe_str (fun _ _ => rfl)) pa_nil)) (nomark _))
            (pw_and1 (pt_cmpR op_ge (pe_callB call_abs (by rfl) B.abs (by decide +kernel) (pa_cons (pv 4) pa_nil)) (pe_op op_pow pe_int pe_int) (nomark _)))))
        (pss_cons (ps_dput hu (pv 0) pe_str (pe_op op_fdiv (pe_op op_sub (pe_callB call_abs (by rfl) B.abs (by decide +kernel) (pa_cons (pv 4) pa_nil)) (pe_op op_pow pe_int pe_int)) (pv 1)) rfl)
        (pss_one (ps_ret (pe_op op_mod (pe_op op_sub (pe_callB call_abs (by rfl) B.abs (by decide +kernel) (pa_cons (pv 4) pa_nil)) (pe_op op_pow pe_int pe_int)) (pv 1))))) pss_nil)
      (pss_cons (ps_set (i := 5) nd rfl (.inl rfl) (pe_op op_mod (pe_op op_add (pe_op op_add (pe_op op_add (pe_op op_mul (pe_op op_mod (pv 4) pe_int) pe_int) (pe_op op_mul (pe_op op_mul pe_int (pv 3)) (pv 3))) (pe_op op_mul pe_int (pv 3))) pe_int) pe_int))
      (pss_cons (ps_set (i := 5) nd rfl (.inl rfl) (pe_op op_mod (pe_op op_add (pe_op op_add (pe_op op_add (pe_op op_mul (pv 5) (pv 5)) (pe_op op_mul pe_int (pv 5))) (pe_op op_mul pe_int (pv 3))) pe_int) pe_int))
      (pss_one (ps_ret (pe_op op_mod (pe_op op_fdiv (pe_op op_mod (pe_op op_mul (pv 5) (pe_op op_add (pv 5) pe_int)) pe_int) pe_int) (pv 1))))))))))), ?_⟩
    -- if pen['left'] > 0
    refine ⟨_, rfl, p, _, rfl, dg_left hp, _, _, rfl, rfl, _, rfl, ?_⟩
    refine ite2 (fun e => ?_) (fun e => ?_)
    · have e : 0 < l := of_decide_eq_true e
      refine ⟨_, rfl, p, _, rfl, dg_left hp, _, rfl, _, _, rfl, rfl, m0, ?_⟩
      refine ⟨_, rfl, p, _, rfl, dg_left hp, _, rfl, _, _, rfl, rfl, ⟨m0, m1⟩, _, rfl, p, _, rfl, dp_left hp, ?_⟩
      refine ⟨_, rfl, k _ _ (blend_lt m0).1 (blend_lt m0).2 ⟨ns, a, l / m, upd_same, (upd_ne ncp).trans hc, a0, by omega, Int.ediv_nonneg l0 (by omega)⟩ Kp.put⟩
    -- at = pen['at']; pen['at'] = at + 1
    refine ⟨_, rfl, p, _, rfl, dg_at hp, ?_⟩
    refine ⟨_, rfl, _, _, rfl, rfl, _, rfl, p, _, rfl, dp_at hp, ?_⟩
    have hp1 : (upd H p (.dK (penK c (a + 1) l))) p = some (.dK (penK c (a + 1) l)) := upd_same
    have hc1 : (upd H p (.dK (penK c (a + 1) l))) c = some (.lst (ns.map V.int)) := (upd_ne ncp).trans hc
    have k1 : Kp p H (upd H p (.dK (penK c (a + 1) l))) := Kp.put
    generalize upd H p (.dK (penK c (a + 1) l)) = H1 at hp1 hc1 k1 ⊢
    -- cell = 17 * at + 3
    refine ⟨_, rfl, _, _, rfl, rfl, .inl (by omega), _, _, rfl, rfl, ?_⟩
    -- if pen['cells'] != []
    refine ⟨fun σ' H' => ∃ cell : Int, σ' = [some (.ref p), some (.int m), none, some (.int a), some (.int cell), none] ∧ H' p = some (.dK (penK c (a + 1) l)) ∧ H' c = some (.lst (ns.map V.int)) ∧ Kp p H H', ?_, ?_⟩
    · refine ⟨_, rfl, p, _, rfl, dg_cells hp1, Nat.zero_le _, fun q hq => ?_⟩
      have hp2 : (upd H1 q (.lst [])) p = some (.dK (penK c (a + 1) l)) := (upd_ne (ne_of_none hp1 hq)).trans hp1
      have hc2 : (upd H1 q (.lst [])) c = some (.lst (ns.map V.int)) := (upd_ne (ne_of_none hc1 hq)).trans hc1
      have hq2 : (upd H1 q (.lst [])) q = some (.lst []) := upd_same
      have k2 : Kp p H (upd H1 q (.lst [])) := k1.trans (Kp.new hq)
      generalize upd H1 q (.lst []) = H2 at hp2 hc2 hq2 k2 ⊢
      refine ⟨.list (ns.map PyData.int), .list [], .lst (SqL.of hc2) (dp_ints ns), .lst (SqL.of hq2) .nil, shp_ints ns, shp_nil, _, rfl, ?_⟩
      rw [eqv_nil]
      refine ite2 (fun e => ?_) (fun e => ⟨_, rfl, hp2, hc2, k2⟩)
      have hne : 0 < ns.length := by
        cases ns with
        | nil => cases e
        | cons x r => exact Nat.succ_pos _
      have hlen : (0 : Int) < ((ns.map V.int).length : Int) := by
        rw [List.length_map]
        omega
      have hm := blend_lt (x := a) hlen
      rw [List.length_map] at hm
      obtain ⟨j, hj⟩ : ∃ j : Nat, (a % (ns.length : Int)) = (j : Int) := ⟨(a % (ns.length : Int)).toNat, by omega⟩
      have hjl : j < ns.length := by omega
      refine ⟨_, rfl, p, _, rfl, dg_cells hp2, _, rfl, _, rfl, p, _, rfl, dg_cells hp2, c, _, rfl, .inl (SqL.of hc2), _, _, rfl, rfl, hlen, c, ns.map V.int, _, .int (ns[j]), rfl, rfl, SqL.of hc2, ?_, ⟨_, rfl, hp2, hc2, k2⟩⟩
      rw [List.length_map, hj]
      refine atI_nat ?_
      rw [List.getElem?_map, List.getElem?_eq_getElem hjl]
      rfl
    rintro σ' H2 ⟨cell, rfl, hp2, hc2, k2⟩
    have fin : ∀ (H' : Hp) (b : Int), 0 ≤ b → H' p = some (.dK (penK c (a + 1) b)) → H' c = some (.lst (ns.map V.int)) → PenAt H' p c (n + 1) := fun H' b hb q1 q2 => ⟨ns, a + 1, b, q1, q2, by omega, by omega, hb⟩
    -- if at < len(pen['cells']) and abs(cell) >= 10 ** 18
    refine ⟨fun σ' H' => σ' = [some (.ref p), some (.int m), none, some (.int a), some (.int cell), none] ∧ H' = H2, ?_, ?_⟩
    · refine ⟨_, rfl, _, rfl, p, _, rfl, dg_cells hp2, c, _, rfl, .inl (SqL.of hc2), _, _, rfl, rfl, _, rfl, ?_⟩
      refine ite2 (fun e1 => ?_) (fun e1 => iteF ⟨rfl, rfl⟩)
      refine ⟨_, rfl, cell, rfl, _, _, rfl, rfl, ⟨by decide, by decide, by decide⟩, _, _, rfl, rfl, _, rfl, ?_⟩
      refine ite2 (fun e2 => ?_) (fun e2 => ⟨rfl, rfl⟩)
      have e2 : (10 : Int) ^ (18 : Int).toNat ≤ (if cell < 0 then -cell else cell) := of_decide_eq_true e2
      refine ⟨_, rfl, cell, rfl, _, _, rfl, rfl, ⟨by decide, by decide, by decide⟩, _, _, rfl, rfl, _, rfl, _, _, rfl, rfl, ⟨m0, m1⟩, _, rfl, p, _, rfl, dp_left hp2, ?_⟩
      refine ⟨_, rfl, cell, rfl, _, _, rfl, rfl, ⟨by decide, by decide, by decide⟩, _, _, rfl, rfl, _, rfl, _, _, rfl, rfl, m0, ?_⟩
      exact k _ _ (blend_lt m0).1 (blend_lt m0).2 (fin _ _ (Int.ediv_nonneg (by omega) (by omega)) upd_same ((upd_ne ncp).trans hc2)) (k2.trans Kp.put)
    rintro σ' H3 ⟨rfl, rfl⟩
    -- the blends
    have b0 := blend_lt (x := cell) (m := 2147483659) (by decide)
    refine ⟨_, rfl, _, _, rfl, rfl, (by show (0 : Int) < 2147483659; decide), _, _, rfl, rfl, .inl (by show -(2 ^ 64) < cell % 2147483659 ∧ cell % 2147483659 < 2 ^ 64; omega), _, rfl, _, _, rfl, rfl, .inl (by decide), _, rfl, _, _, rfl, rfl, .inl (by omega), _, _, rfl, rfl, _, rfl, _, _, rfl, rfl, .inl (by decide), _, _, rfl, rfl, _, _, rfl, rfl, _, _, rfl, rfl, (by show (0 : Int) < 2147483693; decide), ?_⟩
    have b1 := blend_lt (x := cell % 2147483659 * 48271 + 30011 * a * a + 12289 * a + 7) (m := 2147483693) (by decide)
    obtain ⟨x, hx⟩ : ∃ x, x = (cell % 2147483659 * 48271 + 30011 * a * a + 12289 * a + 7) % 2147483693 := ⟨_, rfl⟩
    rw [← hx] at b1
    dsimp only
    rw [← hx]
    refine ⟨_, rfl, _, rfl, _, _, rfl, rfl, .inl (by omega), _, rfl, _, _, rfl, rfl, .inl (by decide), _, _, rfl, rfl, _, rfl, _, _, rfl, rfl, .inl (by decide), _, _, rfl, rfl, _, _, rfl, rfl, _, _, rfl, rfl, (by show (0 : Int) < 2147483713; decide), ?_⟩
    have b2 := blend_lt (x := x * x + 16807 * x + 5 * a + 1) (m := 2147483713) (by decide)
    obtain ⟨y, hy⟩ : ∃ y, y = (x * x + 16807 * x + 5 * a + 1) % 2147483713 := ⟨_, rfl⟩
    rw [← hy] at b2
    dsimp only
    rw [← hy]
    refine ⟨_, rfl, _, rfl, _, _, rfl, rfl, _, _, rfl, rfl, .inl (by omega), _, _, rfl, rfl, (by show (0 : Int) < 2147483743; decide), _, _, rfl, rfl, ⟨by decide, by decide⟩, _, rfl, _, _, rfl, rfl, m0, ?_⟩
    exact k _ _ (blend_lt m0).1 (blend_lt m0).2 (fin _ l l0 hp2 hc2) k2
end
end Ah
set_option Elab.async false
set_option linter.all false
set_option maxRecDepth 100000
set_option maxHeartbeats 2000000
namespace Ah
open PySem PySem.Spec PyProof.Rows L2
/-! ### data over heaps -/
/-- what data lean on: lists and tuples that are to be read -/
def Sq (K : PySem.W.Frag) (H H' : Hp) : Prop := (∀ a xs, SqL K H a xs → SqL K H' a xs) ∧ ∀ a xs, SqT K H a xs → SqT K H' a xs
theorem Sq.kp {K : PySem.W.Frag} {p : Addr} {H H' : Hp} (k : Kp p H H') {kvs : List (Key × V)} (hp : H p = some (.dK kvs)) : Sq K H H' := ⟨fun _ _ h => seq_kp k hp h, fun _ _ h => tup_kp k hp h⟩
theorem Sq.same {K : PySem.W.Frag} {H H' : Hp} (k : Same H H') : Sq K H H' := ⟨fun _ _ h => k.seq h, fun _ _ h => tup_same k h⟩
mutual
theorem dp_sq {K : PySem.W.Frag} {H H' : Hp} (k : Sq K H H') : ∀ (d : PyData) (v : V), Dp K H v d → Dp K H' v d
  | .none, _, h => by
    cases h
    exact .non
  | .bool b, _, h => by
    cases h
    exact .bl b
  | .int i, _, h => by
    cases h
    exact .int i
  | .str x, _, h => by
    cases h
    exact .str x
  | .list ds, _, h => by
    cases h with
    | lst hs ha => exact .lst (k.1 _ _ hs) (dpAll_sq k ds _ ha)
  | .tuple ds, _, h => by
    cases h with
    | tup hs ha => exact .tup (k.2 _ _ hs) (dpAll_sq k ds _ ha)
  | .dict _, _, h => by cases h
theorem dpAll_sq {K : PySem.W.Frag} {H H' : Hp} (k : Sq K H H') : ∀ (ds : List PyData) (vs : List V), DpAll K H vs ds → DpAll K H' vs ds
  | [], _, h => by
    cases h
    exact .nil
  | d :: ds, _, h => by
    cases h with
    | cons h1 h2 => exact .cons (dp_sq k d _ h1) (dpAll_sq k ds _ h2)
end
def Shp (d : PyData) : Prop := d.canLay0 = true ∧ d.depth ≤ 60
theorem shp_all : ∀ {ds : List PyData}, (∀ d ∈ ds, Shp d) → PyData.canLayAll0 ds = true ∧ PyData.depthAll ds ≤ 60
  | [], _ => ⟨rfl, by simp [PyData.depthAll]⟩
  | d :: ds, h => by
    obtain ⟨h1, h2⟩ := shp_all fun x hx => h x (List.mem_cons_of_mem _ hx)
    obtain ⟨h3, h4⟩ := h d List.mem_cons_self
    refine ⟨by simp [PyData.canLayAll0, h1, h3], ?_⟩
    simp only [PyData.depthAll]
    omega
theorem shp_l {ds : List PyData} (h : ∀ d ∈ ds, Shp d) : SeqAt.shaped (.list ds) = true := shp_list (shp_all h).1 (Nat.le_trans (shp_all h).2 (by decide))
theorem shp_t {ds : List PyData} (h : ∀ d ∈ ds, Shp d) : SeqAt.shaped (.tuple ds) = true := shp_tup (shp_all h).1 (Nat.le_trans (shp_all h).2 (by decide))
theorem shp_str {x : Str} (h : PyData.strOk x = true) : Shp (.str x) := ⟨by simp [PyData.canLay0, h], by simp [PyData.depth]⟩
theorem dpAll_len {K : PySem.W.Frag} {H : Hp} : ∀ {vs : List V} {ds : List PyData}, DpAll K H vs ds → vs.length = ds.length
  | _, _, .nil => rfl
  | _, _, .cons _ t => by rw [List.length_cons, List.length_cons, dpAll_len t]
theorem dpAll_erase {K : PySem.W.Frag} {H : Hp} : ∀ {vs : List V} {ds : List PyData} (i : Nat), DpAll K H vs ds → DpAll K H (vs.eraseIdx i) (ds.eraseIdx i)
  | _, _, _, .nil => .nil
  | _, _, 0, .cons _ t => t
  | _, _, i + 1, .cons h t => .cons h (dpAll_erase i t)
theorem eqv_nils {ds : List PyData} : PyData.eqv (.list ds) (.list []) = ds.isEmpty := by
  cases ds with
  | nil => simp [PyData.eqv, PyData.eqvAll]
  | cons n ns => simp [PyData.eqv, PyData.eqvAll]
/-! ### a def, as its callers see it -/
structure Df (P : Program) (w : World) (K : PySem.W.Frag) (mg : Str → Option Value) (base : Heap) (CX : CXT) (x : Str) (k : Nat) (f : Addr) (fd : FuncData) (ps : List Str) (sp : Sp) : Prop where
  ok : FnOk P w K mg base CX k f fd ps sp
  g : mg x = some (.ref f)
  kp : PySem.W.keepIn K (.ref f) = true
  b : Binds K fd ps []
/-- a sequence of values: a list, a tuple, a text's signs -/
def Seqv (K : PySem.W.Frag) (H : Hp) (x : V) (ys : List V) : Prop := (∃ a, x = .ref a ∧ SqL K H a ys) ∨ (∃ a, x = .ref a ∧ SqT K H a ys) ∨ ∃ z : Str, x = .str z ∧ z.length ≤ sizeLine ∧ ys = z.cps.toList.map fun c => V.str ⟨#[c]⟩
theorem Seqv.sq {K : PySem.W.Frag} {H H' : Hp} {x : V} {ys : List V} (k : Sq K H H') (h : Seqv K H x ys) : Seqv K H' x ys := by
  rcases h with ⟨a, e, h⟩ | ⟨a, e, h⟩ | h
  · exact .inl ⟨a, e, k.1 _ _ h⟩
  · exact .inr (.inl ⟨a, e, k.2 _ _ h⟩)
  · exact .inr (.inr h)
theorem Seqv.len {K : PySem.W.Frag} {H : Hp} {x : V} {ys : List V} (h : Seqv K H x ys) : LenV K x H ys.length := by
  rcases h with ⟨a, rfl, h⟩ | ⟨a, rfl, h⟩ | ⟨z, rfl, hz, rfl⟩
  · exact .inl ⟨ys, h, rfl⟩
  · exact .inr ⟨ys, h, rfl⟩
  · exact ⟨hz, by rw [List.length_map, Array.length_toList]; rfl⟩
theorem perm_erase {α : Type} : ∀ {l : List α} {i : Nat} (h : i < l.length), (l[i] :: l.eraseIdx i).Perm l
  | x :: l, 0, _ => List.Perm.refl _
  | x :: l, i + 1, h => by
    have ih := perm_erase (l := l) (i := i) (Nat.lt_of_succ_lt_succ h)
    show (l[i]'(Nat.lt_of_succ_lt_succ h) :: x :: l.eraseIdx i).Perm (x :: l)
    exact (List.Perm.swap _ _ _).trans (ih.cons x)
theorem seqIx {j n : Nat} (h : j < n) : seqIndex? (j : Int) n = some j := by
  unfold seqIndex?
  simp
  omega
abbrev sPick : Stmt := topS 19
abbrev sShuf : Stmt := topS 20
section
variable {P : Program} {w : World} {K : PySem.W.Frag} {mg : Str → Option Value} {base : Heap}
theorem scPick : FnScope ["pen", "some"] ["pen", "some"] (defScope sPick) := ⟨rfl, rfl, rfl, by decide +kernel, rfl, by decide +kernel, by decide +kernel⟩
def spPick (K : PySem.W.Frag) : Sp := fun vs H Q _ => ∃ (p c : Addr) (x : V) (ys : List V) (n : Nat), vs = [.ref p, x] ∧ Seqv K H x ys ∧ PenAt H p c n ∧ n < 1000000 ∧ 0 < ys.length ∧ ys.length < 1000000 ∧
  ∀ (i : Nat) (y : V) (H' : Hp), ys[i]? = some y → PenAt H' p c (n + 1) → Kp p H H' → Q y H'
theorem ok_pick {f f1 : Addr} {fd fd1 : FuncData} (F : Fun K "_law_pick" "_law_pick" sPick f fd) (B : Blt mg) (D : Df P w K mg base CX0 "_law_draw" 1 f1 fd1 ["pen", "many"] spDraw) : FnOk P w K mg base CX0 2 f fd ["pen", "some"] (spPick K) := by
  refine F.ok scPick (fun vs H Q E h => ?_) (fun cdv A outer s H vs Q E hr h => ?_)
  · obtain ⟨p, c, x, ys, n, rfl, _⟩ := h
    rfl
  · obtain ⟨p, c, x, ys, n, rfl, hx, hp, hn, h0, h1, k⟩ := h
    refine ⟨_, pss_one (ps_ret (pe_ix ix_seq (pv 1) (pe_call D.ok hr rfl D.g D.kp D.b .nil pass0 (pa_cons (pv 0) (pa_cons (pe_callB call_len (by rfl) B.len PySem.boot_len (pa_cons (pv 1) pa_nil)) pa_nil))) (fun _ _ => rfl))), ?_⟩
    refine ⟨_, rfl, _, rfl, x, rfl, x, _, rfl, hx.len, p, c, _, n, rfl, hp, hn, by omega, by omega, fun d H' d0 d1 hp' kp => ?_⟩
    obtain ⟨kvs, hk⟩ := hp.dk
    have hx' := hx.sq (Sq.kp kp hk)
    obtain ⟨j, rfl⟩ : ∃ j : Nat, d = j := ⟨d.toNat, by omega⟩
    have hj : j < ys.length := by omega
    have hjj : ys[j]? = some ys[j] := List.getElem?_eq_getElem hj
    rcases hx' with ⟨a, e, h⟩ | ⟨a, e, h⟩ | ⟨z, e, hz, rfl⟩
    · exact .inl ⟨a, ys, _, _, e, rfl, h, atI_nat hjj, k j _ _ hjj hp' kp⟩
    · exact .inr (.inl ⟨a, ys, _, _, e, rfl, h, atI_nat hjj, k j _ _ hjj hp' kp⟩)
    · obtain ⟨b, hc, ec⟩ : ∃ b, z.cps.toList[j]? = some b ∧ V.str ⟨#[b]⟩ = (z.cps.toList.map fun c => V.str ⟨#[c]⟩)[j] := by
        rw [List.length_map] at hj
        refine ⟨z.cps.toList[j], List.getElem?_eq_getElem hj, by rw [List.getElem_map]⟩
      refine .inr (.inr ⟨z, _, b, e, rfl, hz, ?_, ?_⟩)
      · unfold atI
        unfold ixN
        rw [if_pos (by omega)]
        rw [List.length_map] at hj
        rw [if_pos (by omega)]
        exact hc
      · rw [ec]
        exact k j _ _ hjj hp' kp
theorem scShuf : FnScope ["pen", "some", "left", "found"] ["pen", "some"] (defScope sShuf) := ⟨rfl, rfl, rfl, by decide +kernel, rfl, by decide +kernel, by decide +kernel⟩
def spShuf (K : PySem.W.Frag) : Sp := fun vs H Q _ => ∃ (p c a : Addr) (xs : List V) (ds : List PyData) (n : Nat), vs = [.ref p, .ref a] ∧ (SqL K H a xs ∨ SqT K H a xs) ∧ DpAll K H xs ds ∧ (∀ d ∈ ds, Shp d) ∧ xs.length ≤ 1000 ∧ PenAt H p c n ∧ n + xs.length < 1000000 ∧
  ∀ (q : Addr) (ys : List V) (H' : Hp), ys.Perm xs → H q = none → H' q = some (.lst ys) → PenAt H' p c (n + xs.length) → Kp p H H' → Q (.ref q) H'
theorem ok_shuf {f f1 : Addr} {fd fd1 : FuncData} (F : Fun K "_law_shuffled" "_law_shuffled" sShuf f fd) (B : Blt mg) (D : Df P w K mg base CX0 "_law_draw" 1 f1 fd1 ["pen", "many"] spDraw) : FnOk P w K mg base CX0 2 f fd ["pen", "some"] (spShuf K) := by
  refine F.ok scShuf (fun vs H Q E h => ?_) (fun cdv A outer s H vs Q E hr h => ?_)
  · obtain ⟨p, c, a, xs, ds, n, rfl, _⟩ := h
    rfl
  · obtain ⟨p, c, a, xs, ds, n, rfl, hx, hd, hs, h0, hp, hn, k⟩ := h
    have nd := scShuf.nd
    refine ⟨_, pss_cons (ps_par (i := 2) (j := 3) rfl nd rfl rfl (by decide) rfl rfl (pa_cons (pe_callTy call_list_of (by rfl) B.list (by decide +kernel) (pa_cons (pv 1) pa_nil)) (pa_cons (pe_lst pa_nil) pa_nil)) (by rfl))
      (pss_cons (ps_while PassesOwn.never (pt_cmpR (op_neD hr.units) (pv 2) (pe_lst pa_nil) (nomark _))
        (pss_one (ps_expr (pe_bm PySem.F.plainAttrs_list PySem.F.slot_list_append PySem.F.type_list_append mt_append (pv 3) (pa_cons (pe_bm PySem.F.plainAttrs_list PySem.F.slot_list_pop PySem.F.type_list_pop mt_popAt (pv 2)
          (pa_cons (pe_call D.ok hr rfl D.g D.kp D.b .nil pass0 (pa_cons (pv 0) (pa_cons (pe_callB call_len_seq (by rfl) B.len PySem.boot_len (pa_cons (pv 2) pa_nil)) pa_nil))) pa_nil)) pa_nil)))))
      (pss_one (ps_ret (pv 3)))), ?_⟩
    obtain ⟨kvs, hk⟩ := hp.dk
    refine ⟨_, rfl, a, xs, rfl, hx, fun l hl => ?_⟩
    have ha1 : Same H (upd H l (.lst xs)) := same_new hl
    have e1 : (upd H l (.lst xs)) l = some (.lst xs) := upd_same
    generalize upd H l (.lst xs) = H1 at ha1 e1 ⊢
    refine ⟨Nat.zero_le _, fun g hg => ?_⟩
    have ha2 : Same H (upd H1 g (.lst [])) := ha1.trans (same_new hg)
    have e2 : (upd H1 g (.lst [])) l = some (.lst xs) := (upd_ne (ne_of_none e1 hg)).trans e1
    have e3 : (upd H1 g (.lst [])) g = some (.lst []) := upd_same
    have nlg : l ≠ g := ne_of_none e1 hg
    have hg0 : H g = none := ha1.free hg
    generalize upd H1 g (.lst []) = H2 at ha2 e2 e3 ⊢
    refine ⟨_, _, rfl, ?_⟩
    -- the loop
    refine ⟨fun m σ H' => ∃ (us ys : List V) (es : List PyData), m = us.length ∧ σ = [some (.ref p), some (.ref a), some (.ref l), some (.ref g)] ∧ H' l = some (.lst us) ∧ H' g = some (.lst ys) ∧ (ys ++ us).Perm xs ∧ DpAll K H us es ∧ (∀ d ∈ es, Shp d) ∧ PenAt H' p c (n + ys.length) ∧ Kp p H H',
      ⟨_, xs, [], ds, rfl, rfl, e2, e3, List.Perm.refl _, hd, hs, hp.keep ha2, Kp.same ha2⟩, ?_⟩
    rintro m σ H3 ⟨us, ys, es, rfl, rfl, f2, f3, pm, hdu, hsu, hp3, kp3⟩
    have len := pm.length_eq
    rw [List.length_append] at len
    refine ⟨_, rfl, Nat.zero_le _, fun t ht => ?_⟩
    have g2 : (upd H3 t (.lst [])) l = some (.lst us) := (upd_ne (ne_of_none f2 ht)).trans f2
    have g3 : (upd H3 t (.lst [])) g = some (.lst ys) := (upd_ne (ne_of_none f3 ht)).trans f3
    have gt : (upd H3 t (.lst [])) t = some (.lst []) := upd_same
    have hp4 := hp3.keep (same_new (o := .lst []) ht)
    have kp4 : Kp p H (upd H3 t (.lst [])) := kp3.trans (Kp.new ht)
    generalize upd H3 t (.lst []) = H4 at g2 g3 gt hp4 kp4 ⊢
    have hdu4 : DpAll K H4 us es := dpAll_sq (Sq.kp kp4 hk) _ _ hdu
    refine ⟨.list es, .list [], .lst (SqL.of g2) hdu4, .lst (SqL.of gt) .nil, shp_l hsu, shp_nil, _, rfl, ?_⟩
    rw [eqv_nils]
    have eil := dpAll_len hdu
    refine ite2 (fun e => ?_) (fun e => ?_)
    · have hne : 0 < us.length := by
        cases es with
        | nil => cases e
        | cons x r =>
          rw [eil]
          exact Nat.succ_pos _
      refine ⟨fun σ' H' => ∃ (us' ys' : List V) (es' : List PyData), us'.length < us.length ∧ σ' = [some (.ref p), some (.ref a), some (.ref l), some (.ref g)] ∧ H' l = some (.lst us') ∧ H' g = some (.lst ys') ∧ (ys' ++ us').Perm xs ∧ DpAll K H us' es' ∧ (∀ d ∈ es', Shp d) ∧ PenAt H' p c (n + ys'.length) ∧ Kp p H H',
        fun σ' H' ⟨us', ys', es', h1, h2, h3, h4, h5, h6, h7, h8, h9⟩ => ⟨_, h1, us', ys', es', rfl, h2, h3, h4, h5, h6, h7, h8, h9⟩, ?_⟩
      refine ⟨_, rfl, .inl ⟨rfl, _, SqL.of g3⟩, _, rfl, .inl ⟨rfl, _, SqL.of g2⟩, _, rfl, _, rfl, l, us, rfl, .inl (SqL.of g2), p, c, _, _, rfl, hp4, by omega, by omega, by omega, fun d H5 d0 d1 hp5 kp5 => ?_⟩
      obtain ⟨kvs4, hk4⟩ := hp4.dk
      have npl : l ≠ p := fun q => by
        rw [q, hk4] at g2
        cases g2
      have npg : g ≠ p := fun q => by
        rw [q, hk4] at g3
        cases g3
      have i2 : H5 l = some (.lst us) := kp5 _ _ npl g2
      have i3 : H5 g = some (.lst ys) := kp5 _ _ npg g3
      obtain ⟨j, rfl⟩ : ∃ j : Nat, d = j := ⟨d.toNat, by omega⟩
      have hj : j < us.length := by omega
      refine ⟨l, us, j, j, us[j], rfl, rfl, i2, by omega, by omega, ?_, List.getElem?_eq_getElem hj, ?_⟩
      · exact seqIx hj
      refine ⟨g, ys, us[j], rfl, rfl, (upd_ne nlg.symm).trans i3, ?_, ?_⟩
      · exact small1000 (by omega)
      refine ⟨us.eraseIdx j, ys ++ [us[j]], es.eraseIdx j, ?_, rfl, (upd_ne nlg).trans upd_same, upd_same, ?_, dpAll_erase j hdu, fun d hd => hsu d (List.eraseIdx_subset hd), ?_, ?_⟩
      · rw [List.length_eraseIdx, if_pos hj]
        omega
      · rw [List.append_assoc]
        exact (List.Perm.append_left ys (perm_erase hj)).trans pm
      · rw [List.length_append, List.length_singleton]
        exact hp.mut hg0 (hp.mut hl hp5)
      · exact (kp4.trans kp5).mut hl |>.mut hg0
    · have hne : us = [] := by
        cases es with
        | nil => exact List.length_eq_zero_iff.mp eil
        | cons x r => exact absurd rfl e
      subst hne
      rw [List.append_nil] at pm
      have q := hp4
      refine ⟨_, rfl, k g ys H4 pm hg0 g3 ?_ kp4⟩
      have : ys.length = xs.length := pm.length_eq
      rw [← this]
      exact hp4
end
end Ah
set_option Elab.async false
set_option linter.all false
set_option maxRecDepth 100000
set_option maxHeartbeats 2000000
namespace Ah
open PySem PySem.Spec PyProof.Rows L2
/-! ### hands -/
def IsHand (x : Str) : Prop := 1 ≤ x.length ∧ x.length ≤ 8 ∧ ∀ b ∈ x.cps.toList, 97 ≤ b ∧ b ≤ 122
instance (x : Str) : Decidable (IsHand x) := by unfold IsHand; infer_instance
theorem IsHand.ok {x : Str} (h : IsHand x) : PyData.strOk x = true := by
  unfold PyData.strOk
  rw [← Array.all_toList, List.all_eq_true]
  intro b hb
  have := h.2.2 b hb
  exact decide_eq_true (by omega)
def letters : Str := "abcdefghijklmnopqrstuvwxyz"
theorem letters_cs : letters.cps.toList = (List.range 26).map (· + 97) := by decide +kernel
def wordsT : Str := "let hands a ab abc abcd ann anna b ba lets hand z zz zzz le row rows an bar bars c ca"
def wordsL : List Str := ["let", "hands", "a", "ab", "abc", "abcd", "ann", "anna", "b", "ba", "lets", "hand", "z", "zz", "zzz", "le", "row", "rows", "an", "bar", "bars", "c", "ca"]
theorem words_split : Txt.split wordsT " " = wordsL := by decide +kernel
theorem words_nd : wordsL.Nodup := by decide +kernel
theorem words_hand : ∀ x ∈ wordsL, IsHand x := by decide +kernel
def bysL : List Int := [1, 3, 5, 7, 9, 11, 15, 17, 19, 21, 23, 25]
/-- the k-th hand -/
def handAt (B : List Nat) (at' first by' cut k : Nat) : Str := ⟨(B.take at' ++ [(first + by' * k) % 26 + 97] ++ (B.drop (at' + 1)).take (if cut = 0 then 8 else k % 3)).toArray⟩
theorem handAt_cs (B : List Nat) (a f b c k : Nat) : (handAt B a f b c k).cps.toList = B.take a ++ [(f + b * k) % 26 + 97] ++ (B.drop (a + 1)).take (if c = 0 then 8 else k % 3) := rfl
theorem handAt_is {B : List Nat} {a f b c k : Nat} (h1 : B.length ≤ 8) (h2 : ∀ x ∈ B, 97 ≤ x ∧ x ≤ 122) (ha : a < B.length) : IsHand (handAt B a f b c k) := by
  have hl : (handAt B a f b c k).length = (B.take a ++ [(f + b * k) % 26 + 97] ++ (B.drop (a + 1)).take (if c = 0 then 8 else k % 3)).length := by
    show ((B.take a ++ [(f + b * k) % 26 + 97] ++ (B.drop (a + 1)).take (if c = 0 then 8 else k % 3)).toArray).size = _
    rw [List.size_toArray]
  have hl2 : (handAt B a f b c k).length = a + 1 + min (if c = 0 then 8 else k % 3) (B.length - (a + 1)) := by
    rw [hl, List.length_append, List.length_append, List.length_take, List.length_take, List.length_drop, List.length_singleton]
    omega
  refine ⟨by omega, by omega, fun x hx => ?_⟩
  rw [handAt_cs] at hx
  rcases List.mem_append.mp hx with hx | hx
  · rcases List.mem_append.mp hx with hx | hx
    · exact h2 x (List.mem_of_mem_take hx)
    · rw [List.mem_singleton] at hx
      omega
  · exact h2 x (List.mem_of_mem_drop (List.mem_of_mem_take hx))
theorem handAt_inj {B : List Nat} {a f b c k k' : Nat} (ha : a < B.length) (hb : (b : Int) ∈ bysL) (h25 : b ≠ 25) (hk : k < 8) (hk' : k' < 8) (e : handAt B a f b c k = handAt B a f b c k') : k = k' := by
  have q := congrArg (fun x : Str => x.cps.toList[a]?) e
  have lt : (B.take a).length = a := by rw [List.length_take]; omega
  have g : ∀ k, (handAt B a f b c k).cps.toList[a]? = some ((f + b * k) % 26 + 97) := fun k => by
    rw [handAt_cs, List.append_assoc, List.getElem?_append_right (by omega), lt, Nat.sub_self]
    rfl
  have q : (handAt B a f b c k).cps.toList[a]? = (handAt B a f b c k').cps.toList[a]? := q
  rw [g, g] at q
  have q := Option.some.inj q
  have hb' : b = 1 ∨ b = 3 ∨ b = 5 ∨ b = 7 ∨ b = 9 ∨ b = 11 ∨ b = 15 ∨ b = 17 ∨ b = 19 ∨ b = 21 ∨ b = 23 := by
    simp only [bysL, List.mem_cons, List.not_mem_nil, or_false] at hb
    omega
  rcases hb' with h | h | h | h | h | h | h | h | h | h | h <;> subst h <;> omega
theorem handsAt_nd {g : Nat → Str} {m : Nat} (hm : m ≤ 8) (inj : ∀ k k', k < 8 → k' < 8 → g k = g k' → k = k') : ((List.range m).map g).Nodup := by
  unfold List.Nodup
  rw [List.pairwise_map]
  refine List.Pairwise.imp_of_mem (fun {k k'} hk hk' hne e => ?_) (List.nodup_range (n := m))
  rw [List.mem_range] at hk hk'
  exact hne (inj k k' (by omega) (by omega) e)
theorem nd_inj {α : Type} {l : List α} (h : l.Nodup) {i j : Nat} (hi : i < l.length) (hj : j < l.length) (e : l[i] = l[j]) : i = j := by
  rcases Nat.lt_trichotomy i j with c | c | c
  · exact absurd e (List.pairwise_iff_getElem.mp h i j hi hj c)
  · exact c
  · exact absurd e.symm (List.pairwise_iff_getElem.mp h j i hj hi c)
theorem cutS_cs (l : List Nat) (lo hi : Option Int) : cutS ⟨l.toArray⟩ lo hi = ⟨((l.drop (HT.sIx l.length 0 lo)).take (HT.sIx l.length l.length hi - HT.sIx l.length 0 lo)).toArray⟩ := by
  have e : (⟨l.toArray⟩ : Str).length = l.length := by
    show l.toArray.size = _
    rw [List.size_toArray]
  unfold cutS
  rw [e]
theorem str_app (a b : List Nat) : (⟨a.toArray⟩ : Str) ++ ⟨b.toArray⟩ = ⟨(a ++ b).toArray⟩ := SX.S_cat a b
theorem str_len (a : List Nat) : (⟨a.toArray⟩ : Str).length = a.length := SX.S_len a
theorem joinL_ones : ∀ bs : List Nat, TL.joinL [] (bs.map fun b => [b]) = bs
  | [] => rfl
  | [b] => rfl
  | b :: d :: r => by
    show [b] ++ ([] ++ TL.joinL [] ((d :: r).map fun b => [b])) = b :: d :: r
    rw [joinL_ones (d :: r)]
    rfl
theorem join_nil (bs : List Nat) : Txt.join ("" : Str) (bs.map fun b => (⟨#[b]⟩ : Str)) = ⟨bs.toArray⟩ := by
  have e := SX.join_S [] (bs.map fun b => [b])
  rw [joinL_ones, List.map_map] at e
  exact e
end Ah
set_option Elab.async false
set_option linter.all false
set_option maxRecDepth 100000
set_option maxHeartbeats 4000000
namespace Ah
open PySem PySem.Spec PyProof.Rows L2
abbrev sHands : Stmt := topS 21
section
variable {P : Program} {w : World} {K : PySem.W.Frag} {mg : Str → Option Value} {base : Heap}
theorem scHands : FnScope ["pen", "many", "letters", "k", "base", "at", "first", "cut", "by", "found", "some", "tail"] ["pen", "many"] (defScope sHands) := ⟨rfl, rfl, rfl, by decide +kernel, rfl, by decide +kernel, by decide +kernel⟩
def spHands (K : PySem.W.Frag) : Sp := fun vs H Q _ => ∃ (p c : Addr) (m n : Nat), vs = [.ref p, .int (m : Int)] ∧ 1 ≤ m ∧ m ≤ 8 ∧ PenAt H p c n ∧ n + 20 < 1000000 ∧
  ∀ (q : Addr) (hs : List Str) (H' : Hp), hs.length = m → hs.Nodup → (∀ h ∈ hs, IsHand h) → H q = none → H' q = some (.lst (hs.map V.str)) → PenAt H' p c (n + 20) → Kp p H H' → Q (.ref q) H'
theorem ok_hands {f f1 f2 : Addr} {fd fd1 fd2 : FuncData} (F : Fun K "_law_hands" "_law_hands" sHands f fd) (B : Blt mg) (Br : mg "range" = none) (D : Df P w K mg base CX0 "_law_draw" 1 f1 fd1 ["pen", "many"] spDraw) (D2 : Df P w K mg base CX0 "_law_pick" 2 f2 fd2 ["pen", "some"] (spPick K)) : FnOk P w K mg base CX0 3 f fd ["pen", "many"] (spHands K) := by
  refine F.ok scHands (fun vs H Q E h => ?_) (fun cdv A outer s H vs Q E hr h => ?_)
  · obtain ⟨p, c, m, n, rfl, _⟩ := h
    rfl
  · obtain ⟨p, c, m, n, rfl, m1, m8, hp, hn, k⟩ := h
    have nd := scHands.nd
    have hr1 : Room 1 _ := hr.mono (by decide)
    refine ⟨_, pss_cons (ps_set (i := 2) nd rfl (.inr rfl) pe_str)
      (C8.pss_cut (ps_set (i := 4) nd rfl (.inl rfl) (pe_join pe_str (pe_lc (own := [("k", 3)]) (g := gName 3) (tt := tYes) rfl nd (pi_range1 rfl Br (pa_cons (pe_op op_add pe_int (pe_call D.ok hr1 rfl D.g D.kp D.b .nil pass0 (pa_cons (pv 0) (pa_cons pe_int pa_nil)))) pa_nil))
          (blkOk_by (N := ["pen", "many", "letters", "k", "base", "at", "first", "cut", "by", "found", "some", "tail"]) (sc := defScope sHands) (by decide +kernel)) (fun _ _ _ _ _ => pg_name (i := 3) nd rfl (Or.inl rfl)) (fun _ _ _ _ _ => pts_nil)
          (fun _ _ _ _ _ => pe_call D2.ok hr rfl D2.g D2.kp D2.b .nil pass0 (pa_cons (pv 0) (pa_cons (pv 2) pa_nil))))))
      (pss_cons (ps_asg (pe_tup (pa_cons (pe_call D.ok hr1 rfl D.g D.kp D.b .nil pass0 (pa_cons (pv 0) (pa_cons (pe_callB call_len_str (by rfl) B.len PySem.boot_len (pa_cons (pv 4) pa_nil)) pa_nil)))
            (pa_cons (pe_call D.ok hr1 rfl D.g D.kp D.b .nil pass0 (pa_cons (pv 0) (pa_cons pe_int pa_nil))) (pa_cons (pe_call D.ok hr1 rfl D.g D.kp D.b .nil pass0 (pa_cons (pv 0) (pa_cons pe_int pa_nil))) pa_nil))))
          (pg_tup rfl (pgs_cons (pg_name (i := 5) nd rfl (.inl rfl)) (pgs_cons (pg_name (i := 6) nd rfl (.inr rfl)) (pgs_cons (pg_name (i := 7) nd rfl (.inl rfl)) pgs_nil)))))
      (pss_cons (ps_par (i := 8) (j := 9) rfl nd rfl rfl (by decide) rfl rfl (pa_cons (pe_call D2.ok hr rfl D2.g D2.kp D2.b .nil pass0 (pa_cons (pv 0) (pa_cons (pe_lst (pa_cons pe_int (pa_cons pe_int (pa_cons pe_int (pa_cons pe_int (pa_cons pe_int (pa_cons pe_int (pa_cons pe_int (pa_cons pe_int (pa_cons pe_int (pa_cons pe_int (pa_cons pe_int (pa_cons pe_int pa_nil))))))))))))) pa_nil)))
          (pa_cons (pe_lst pa_nil) pa_nil)) (by rfl))
      (pss_cons (ps_if (pt_cmpR op_eq (pv 8) pe_int (nomark _))
        (pss_cons (ps_set (i := 10) nd rfl (.inr rfl) pe_str)
        (pss_one (ps_ret (pe_lc (own := [("k", 3)]) (g := gName 3) (tt := tYes) rfl nd (pi_range1 rfl Br (pa_cons (pv 1) pa_nil))
          (blkOk_by (N := ["pen", "many", "letters", "k", "base", "at", "first", "cut", "by", "found", "some", "tail"]) (sc := defScope sHands) (by decide +kernel)) (fun _ _ _ _ _ => pg_name (i := 3) nd rfl (Or.inl rfl)) (fun _ _ _ _ _ => pts_nil)
          (fun _ _ _ _ _ => pe_ix (r := rIxL K) ix_list (pe_split (pv 10) pe_str) (pe_op op_mod (pe_op op_add (pv 6) (pe_op op_mul pe_int (pv 3))) pe_int) (fun _ _ => rfl)))))) pss_nil)
      (pss_cons (ps_for PassesOwn.never rfl (pi_range1 rfl Br (pa_cons (pv 1) pa_nil)) (pg_name (i := 3) nd rfl (.inl rfl))
        (pss_cons (ps_set (i := 11) nd rfl (.inl rfl) (pe_slice sl_str (pe_slice sl_str (pv 4) (po_some (pe_op op_add (pv 5) pe_int)) po_none) po_none (po_some (pe_ix ix_list (pe_lst (pa_cons pe_int (pa_cons (pe_op op_mod (pv 3) pe_int) pa_nil))) (pv 7) (fun _ _ => rfl)))))
        (pss_one (ps_expr (pe_bm PySem.F.plainAttrs_list PySem.F.slot_list_append PySem.F.type_list_append mt_append (pv 9) (pa_cons (pe_op op_add_str (pe_op op_add_str (pe_slice sl_str (pv 4) po_none (po_some (pv 5))) (pe_ix ix_str (pv 2) (pe_op op_mod (pe_op op_add (pv 6) (pe_op op_mul (pv 8) (pv 3))) pe_int) (fun _ _ => rfl))) (pv 11)) pa_nil))))))
      (pss_one (ps_ret (pv 9)))))))), ?_⟩
    -- base
    obtain ⟨kvs, hk⟩ := hp.dk
    refine ⟨fun σ' H' => ∃ bs : List Nat, 1 ≤ bs.length ∧ bs.length ≤ 8 ∧ (∀ b ∈ bs, 97 ≤ b ∧ b ≤ 122) ∧ σ' = [some (.ref p), some (.int m), some (.str letters), none, some (.str ⟨bs.toArray⟩), none, none, none, none, none, none, none] ∧ PenAt H' p c (n + 9) ∧ Kp p H H', ?_, ?_⟩
    · refine ⟨⟨_, rfl⟩, _, rfl, p, c, 8, n, rfl, hp, by omega, by decide, by decide, fun d H1 d0 d1 hp1 kp1 => ?_⟩
      obtain ⟨j, rfl⟩ : ∃ j : Nat, d = j := ⟨d.toNat, by omega⟩
      refine ⟨_, _, rfl, rfl, _, rfl, by omega, by omega, fun D0 hD => ?_⟩
      have hj : (1 + (j : Int)).toNat = j + 1 := by omega
      rw [hj]
      have hl1 := hp1
      refine lc_range (lo := 0) (n := j + 1) (fun i H2 => ∃ bs : List Nat, bs.length = i ∧ (∀ b ∈ bs, 97 ≤ b ∧ b ≤ 122) ∧ H2 D0 = some (.lst ((bs.map fun b => (⟨#[b]⟩ : Str)).map V.str)) ∧ PenAt H2 p c (n + 1 + i) ∧ Kp p H H2)
        ⟨[], rfl, by simp, upd_same, hp1.keep (same_new hD), kp1.trans (Kp.new hD)⟩ ?_ ?_
      · rintro i H2 hi ⟨bs, rfl, hb, h2, hp2, kp2⟩
        refine ⟨rfl, _, rfl, _, rfl, p, c, .str letters, _, n + 1 + bs.length, rfl, .inr (.inr ⟨letters, rfl, by decide +kernel, rfl⟩), hp2, by omega, ?_, ?_, ?_⟩
        · decide +kernel
        · decide +kernel
        rintro i y H3 hy hp3 kp3
        obtain ⟨b, hb1, rfl⟩ : ∃ b, (97 ≤ b ∧ b ≤ 122) ∧ y = V.str ⟨#[b]⟩ := by
          rw [letters_cs, List.getElem?_map] at hy
          obtain ⟨z, hz, rfl⟩ := Option.map_eq_some_iff.mp hy
          have := List.mem_of_getElem? hz
          rw [List.mem_map] at this
          obtain ⟨u, hu, rfl⟩ := this
          rw [List.mem_range] at hu
          exact ⟨_, by omega, rfl⟩
        obtain ⟨kvs2, hk2⟩ := hp2.dk
        have nD : D0 ≠ p := fun q => by
          rw [q, hk2] at h2
          cases h2
        refine ⟨_, kp3 _ _ nD h2, ?_, bs ++ [b], by simp, ?_, ?_, ?_, ?_⟩
        · rw [List.length_map, List.length_map]
          exact small1000 (by omega)
        · intro x hx
          rcases List.mem_append.mp hx with hx | hx
          · exact hb x hx
          · rw [List.mem_singleton.mp hx]
            exact hb1
        · rw [upd_same, List.map_append, List.map_append]
          rfl
        · exact hp1.mut hD hp3
        · exact (kp2.trans kp3).mut (kp1.free hp1 hD)
      · rintro H2 ⟨bs, hl, hb, h2, hp2, kp2⟩
        refine ⟨_, D0, bs.map fun b => (⟨#[b]⟩ : Str), rfl, rfl, .inl (SqL.of h2), ?_, bs, by omega, by omega, hb, ?_, hp2.mono (by omega), kp2⟩
        · have e1 : ∀ l : List Nat, ((l.map fun b => (⟨#[b]⟩ : Str)).map (·.length)).sum = l.length := fun l => by
            induction l with
            | nil => rfl
            | cons x r ih =>
              rw [List.map_cons, List.map_cons, List.sum_cons, ih, List.length_cons]
              show 1 + r.length = r.length + 1
              omega
          rw [e1, List.length_map]
          have e2 : ("" : Str).length = 0 := by decide +kernel
          rw [e2]
          omega
        · rw [join_nil]
          rfl
    rintro σ' H1 ⟨bs, b1, b8, hb, rfl, hp1, kp1⟩
    -- at, first, cut
    have lb : (⟨bs.toArray⟩ : Str).length = bs.length := by
      show bs.toArray.size = _
      rw [List.size_toArray]
    refine ⟨_, rfl, _, rfl, _, rfl, by rw [lb]; exact Nat.le_trans b8 (by decide), p, c, _, _, rfl, hp1, by omega, by rw [lb]; omega, by rw [lb]; omega, fun at' H2 a0 a1 hp2 kp2 => ?_⟩
    refine ⟨_, rfl, p, c, _, _, rfl, hp2, by omega, by decide, by decide, fun first H3 f0 f1 hp3 kp3 => ?_⟩
    refine ⟨_, rfl, p, c, _, _, rfl, hp3, by omega, by decide, by decide, fun cut H4 c0 c1 hp4 kp4 => ?_⟩
    refine ⟨(by show 3 ≤ sizeLine; decide), fun t ht => ?_⟩
    refine ⟨t, _, rfl, .inl (.inl upd_same), rfl, _, _, rfl, _, _, rfl, _, _, rfl, rfl, ?_⟩
    have kp5 : Kp p H (upd H4 t (.tup [.int at', .int first, .int cut])) := ((kp1.trans kp2).trans (kp3.trans kp4)).trans (Kp.new ht)
    have hp5 := hp4.keep (same_new (o := .tup [.int at', .int first, .int cut]) ht)
    generalize upd H4 t (.tup [.int at', .int first, .int cut]) = H5 at kp5 hp5 ⊢
    rw [lb] at a1
    obtain ⟨a, rfl⟩ : ∃ j : Nat, at' = j := ⟨at'.toNat, by omega⟩
    obtain ⟨fi, rfl⟩ : ∃ j : Nat, first = j := ⟨first.toNat, by omega⟩
    obtain ⟨cu, rfl⟩ : ∃ j : Nat, cut = j := ⟨cut.toNat, by omega⟩
    -- by, found
    refine ⟨_, rfl, (by show 12 ≤ sizeLine; decide), fun t2 ht2 => ?_⟩
    have hp6 := hp5.keep (same_new (o := .lst (bysL.map V.int)) ht2)
    have kp6 := kp5.trans (Kp.new (o := .lst (bysL.map V.int)) ht2)
    refine ⟨p, c, .ref t2, bysL.map V.int, _, rfl, .inl ⟨t2, rfl, SqL.of upd_same⟩, hp6, by omega, (by decide), (by decide), fun i y H7 hy hp7 kp7 => ?_⟩
    obtain ⟨b, hb25, rfl⟩ : ∃ b : Nat, (b : Int) ∈ bysL ∧ y = V.int b := by
      rw [List.getElem?_map] at hy
      obtain ⟨z, hz, rfl⟩ := Option.map_eq_some_iff.mp hy
      have hm := List.mem_of_getElem? hz
      have z0 : 0 ≤ z := by
        have : ∀ z ∈ bysL, (0 : Int) ≤ z := by decide
        exact this z hm
      exact ⟨z.toNat, by rw [Int.toNat_of_nonneg z0]; exact hm, by rw [Int.toNat_of_nonneg z0]⟩
    have b26 : b < 26 := by
      have : ∀ z ∈ bysL, z < (26 : Int) := by decide
      have := this _ hb25
      omega
    refine ⟨Nat.zero_le _, fun g hg => ?_⟩
    have hp8 := hp7.keep (same_new (o := .lst []) hg)
    have kp8 := (kp6.trans kp7).trans (Kp.new (o := .lst []) hg)
    have g0 : H g = none := (kp6.trans kp7).free hp7 hg
    have e8 : (upd H7 g (.lst [])) g = some (.lst []) := upd_same
    generalize upd H7 g (.lst []) = H8 at hp8 kp8 e8 ⊢
    refine ⟨_, _, rfl, ?_⟩
    -- if by == 25
    refine ⟨_, rfl, rfl, _, rfl, ?_⟩
    refine ite2 (fun e => ?_) (fun e => ?_)
    · -- the words
      refine ⟨_, rfl, _, rfl, by omega, by omega, fun D0 hD => ?_⟩
      rw [Int.toNat_natCast]
      have hD0 : H D0 = none := kp8.free hp8 hD
      refine lc_range (lo := 0) (n := m) (fun i H2 => H2 D0 = some (.lst (((List.range i).map fun k => wordsL.getD ((fi + 5 * k) % 23) "").map V.str)) ∧ PenAt H2 p c (n + 20) ∧ Kp p H H2)
        ⟨upd_same, (hp8.keep (same_new hD)).mono (by omega), kp8.trans (Kp.new hD)⟩ ?_ ?_
      · rintro i H2 hi ⟨h2, hp2, kp2⟩
        refine ⟨rfl, _, rfl, ⟨_, rfl⟩, _, _, rfl, rfl, rfl, by decide +kernel, fun t hT => ?_⟩
        have hx : ((fi : Int) + 5 * (0 + (i : Int))) % 23 = (((fi + 5 * i) % 23 : Nat) : Int) := by omega
        have hl : (fi + 5 * i) % 23 < wordsL.length := Nat.mod_lt _ (by decide)
        refine ⟨_, rfl, _, rfl, _, _, rfl, rfl, .inl (by decide), _, _, rfl, rfl, _, _, rfl, rfl, (by show (0 : Int) < 23; decide), t, wordsL.map V.str, _, .str (wordsL.getD ((fi + 5 * i) % 23) ""), rfl, rfl, ?_, ?_, ?_⟩
        · rw [← words_split]
          exact SqL.of upd_same
        · rw [hx]
          refine atI_nat ?_
          rw [List.getElem?_map, List.getElem?_eq_getElem hl, List.getD_eq_getElem?_getD, List.getElem?_eq_getElem hl]
          rfl
        · refine ⟨_, (upd_ne (ne_of_none h2 hT)).trans h2, ?_, ?_, ?_, ?_⟩
          · rw [List.length_map, List.length_map, List.length_range]
            exact small1000 (by omega)
          · rw [upd_same, List.range_succ, List.map_append, List.map_append]
            rfl
          · exact hp.mut hD0 (hp2.keep (same_new hT))
          · exact (kp2.trans (Kp.new hT)).mut hD0
      · rintro H2 ⟨h2, hp2, kp2⟩
        refine k D0 _ H2 (by rw [List.length_map, List.length_range]) (handsAt_nd m8 fun k k' hk hk' e => ?_) (fun h hh => ?_) hD0 h2 hp2 kp2
        · have hl : (fi + 5 * k) % 23 < wordsL.length := Nat.mod_lt _ (by decide)
          have hl' : (fi + 5 * k') % 23 < wordsL.length := Nat.mod_lt _ (by decide)
          rw [List.getD_eq_getElem?_getD, List.getD_eq_getElem?_getD, List.getElem?_eq_getElem hl, List.getElem?_eq_getElem hl'] at e
          have e' : wordsL[(fi + 5 * k) % 23] = wordsL[(fi + 5 * k') % 23] := e
          have := nd_inj words_nd hl hl' e'
          omega
        · rw [List.mem_map] at hh
          obtain ⟨k, _, rfl⟩ := hh
          have hl : (fi + 5 * k) % 23 < wordsL.length := Nat.mod_lt _ (by decide)
          refine words_hand _ ?_
          rw [List.getD_eq_getElem?_getD, List.getElem?_eq_getElem hl]
          exact List.getElem_mem hl
    · -- the letters
      have h25 : b ≠ 25 := fun q => e (by subst q; rfl)
      refine ⟨_, rfl, _, rfl, by omega, by omega, ?_⟩
      rw [Int.toNat_natCast]
      refine for_range (lo := 0) (n := m) (fun i σ H2 => ∃ v3 v11 : Option V, σ = [some (.ref p), some (.int m), some (.str letters), v3, some (.str ⟨bs.toArray⟩), some (.int a), some (.int fi), some (.int cu), some (.int b), some (.ref g), none, v11] ∧ H2 g = some (.lst (((List.range i).map fun k => handAt bs a fi b cu k).map V.str)) ∧ PenAt H2 p c (n + 20) ∧ Kp p H H2)
        ⟨none, none, rfl, e8, hp8.mono (by omega), kp8⟩ ?_ ?_
      · rintro i σ H2 hi ⟨v3, v11, rfl, h2, hp2, kp2⟩
        have lb8 : (⟨bs.toArray⟩ : Str).length ≤ sizeLine := by rw [str_len]; exact Nat.le_trans b8 (by decide)
        refine ⟨_, rfl, _, rfl, _, _, rfl, rfl, _, rfl, _, rfl, lb8, ?_⟩
        rw [cutS_cs]
        have s1 : HT.sIx bs.length 0 (some ((a : Int) + 1)) = a + 1 := by
          rw [show ((a : Int) + 1) = ((a + 1 : Nat) : Int) from rfl, HT.sIx_nat]
          omega
        dsimp only
        rw [s1, HT.sIx_none, show (List.drop (a + 1) bs).take (bs.length - (a + 1)) = List.drop (a + 1) bs from List.take_of_length_le (by rw [List.length_drop]; omega)]
        refine ⟨_, rfl, _, _, rfl, rfl, (by show (0 : Int) < 3; decide), (by show 2 ≤ sizeLine; decide), fun t hT => ?_⟩
        refine ⟨_, rfl, t, _, _, .int (if cu = 0 then 8 else ((i % 3 : Nat) : Int)), rfl, rfl, SqL.of upd_same, ?_, _, rfl, _, rfl, ?_, ?_⟩
        · by_cases hc : cu = 0
          · subst hc
            exact atI_nat (j := 0) rfl
          · have : cu = 1 := by omega
            subst this
            rw [if_neg (by decide)]
            refine atI_nat (j := 1) ?_
            show some (V.int ((0 + (i : Int)) % 3)) = some (V.int ((i % 3 : Nat) : Int))
            rw [Int.zero_add]
            rfl
        · rw [str_len, List.length_drop]
          exact Nat.le_trans (by omega : bs.length - (a + 1) ≤ 8) (by decide)
        rw [cutS_cs]
        have h2t : (upd H2 t (.lst [.int 8, .int ((0 + (i : Int)) % 3)])) g = some (.lst (((List.range i).map fun k => handAt bs a fi b cu k).map V.str)) := (upd_ne (ne_of_none h2 hT)).trans h2
        have hp2t := hp2.keep (same_new (o := .lst [.int 8, .int ((0 + (i : Int)) % 3)]) hT)
        have kp2t := kp2.trans (Kp.new (o := .lst [.int 8, .int ((0 + (i : Int)) % 3)]) hT)
        show tDrop _ _ _ (upd H2 t (.lst [.int 8, .int ((0 + (i : Int)) % 3)]))
        generalize upd H2 t (.lst [.int 8, .int ((0 + (i : Int)) % 3)]) = H3 at h2t hp2t kp2t ⊢
        have s2 : ∀ l : List Nat, HT.sIx l.length l.length (some (if cu = 0 then 8 else ((i % 3 : Nat) : Int))) = min (if cu = 0 then 8 else i % 3) l.length := fun l => by
          by_cases hc : cu = 0
          · rw [if_pos hc, if_pos hc]
            exact HT.sIx_nat _ _ 8
          · rw [if_neg hc, if_neg hc]
            exact HT.sIx_nat _ _ _
        rw [s2, HT.sIx_none, List.drop_zero, Nat.sub_zero]
        have s3 : (List.drop (a + 1) bs).take (min (if cu = 0 then 8 else i % 3) (List.drop (a + 1) bs).length) = (List.drop (a + 1) bs).take (if cu = 0 then 8 else i % 3) := by
          rw [List.take_eq_take_iff]
          omega
        rw [s3]
        -- found.append(base[:at] + letters[..] + tail)
        refine ⟨_, rfl, .inl ⟨rfl, _, SqL.of h2t⟩, _, rfl, _, rfl, _, rfl, _, rfl, lb8, ?_⟩
        rw [cutS_cs]
        rw [HT.sIx_none, HT.sIx_nat, show min a bs.length = a by omega, List.drop_zero, Nat.sub_zero]
        have hx : ((fi : Int) + (b : Int) * (0 + (i : Int))) % 26 = (((fi + b * i) % 26 : Nat) : Int) := by
          rw [Int.zero_add]
          rfl
        have hl : (fi + b * i) % 26 < 26 := Nat.mod_lt _ (by decide)
        refine ⟨_, rfl, _, rfl, _, rfl, _, rfl, _, _, rfl, rfl, .inl (by omega), _, _, rfl, rfl, _, _, rfl, rfl, (by show (0 : Int) < 26; decide), letters, _, (fi + b * i) % 26 + 97, rfl, rfl, by decide +kernel, ?_, ?_⟩
        · rw [hx]
          refine atI_nat ?_
          rw [letters_cs, List.getElem?_map, List.getElem?_range hl]
          rfl
        have l1 : (List.take a bs).length ≤ 8 := by rw [List.length_take]; omega
        have l2 : (List.take (if cu = 0 then 8 else i % 3) (List.drop (a + 1) bs)).length ≤ 8 := by rw [List.length_take, List.length_drop]; omega
        refine ⟨_, _, rfl, rfl, ?_, ?_⟩
        · rw [str_len]
          exact Nat.le_trans (Nat.add_le_add l1 (Nat.le_refl 1)) (by decide)
        refine ⟨_, rfl, _, _, rfl, rfl, ?_, ?_⟩
        · rw [str_app, str_len, str_len, List.length_append]
          exact Nat.le_trans (Nat.add_le_add (Nat.add_le_add l1 (Nat.le_refl 1)) l2) (by decide)
        rw [str_app, str_app]
        refine ⟨g, _, _, rfl, rfl, h2t, ?_, ?_⟩
        · rw [List.length_map, List.length_map, List.length_range]
          exact small1000 (by omega)
        refine ⟨_, _, rfl, ?_, hp.mut g0 hp2t, kp2t.mut g0⟩
        rw [upd_same, List.range_succ, List.map_append, List.map_append]
        rfl
      · rintro σ H2 ⟨v3, v11, rfl, h2, hp2, kp2⟩
        refine ⟨_, rfl, k g _ H2 (by rw [List.length_map, List.length_range]) (handsAt_nd m8 fun k k' hk hk' e => handAt_inj (by omega) hb25 h25 hk hk' e) (fun h hh => ?_) g0 h2 hp2 kp2⟩
        rw [List.mem_map] at hh
        obtain ⟨k, _, rfl⟩ := hh
        exact handAt_is b8 hb (by omega)
end
end Ah
set_option Elab.async false
set_option linter.all false
set_option maxRecDepth 100000
set_option maxHeartbeats 2000000
/-! sorted(xs), xs a list of data that can be compared -/
namespace Ah
open PySem PySem.Spec PyProof.Rows L2
open PySem.W (EachIs AllAlike Sortable dataLe)
def sortD (ds : List PyData) : List PyData := ds.mergeSort (dataLe false (fun d => d))
def rSortedD (K : PySem.W.Frag) : List V → Hp → VK → Prop := fun vs H Q => ∃ (a : Addr) (xs : List V) (ds : List PyData), vs = [V.ref a] ∧ SqL K H a xs ∧ DpAll K H xs ds ∧ AllAlike ds ∧ Sortable ds ∧ (∀ d ∈ ds, d.depth ≤ 60) ∧
  ∀ (ys : List V) (p : Addr), ys.Perm xs → DpAll K H ys (sortD ds) → H p = none → Q (.ref p) (upd H p (.lst ys))
theorem each_of {K : PySem.W.Frag} {H : Hp} : ∀ {xs : List V} {its : List Value} {ds : List PyData}, Vals xs its → DpAll K H xs ds → EachIs (fun (v : Value) (b : V × PyData) => RelV b.1 v ∧ Dp K H b.1 b.2) its (xs.zip ds)
  | _, _, _, .nil, .nil => .nil
  | _, _, _, .cons r t, .cons h t' => .cons ⟨r, h⟩ (each_of t t')
theorem each_vals {K : PySem.W.Frag} {H : Hp} : ∀ {its : List Value} {zs : List (V × PyData)}, EachIs (fun (v : Value) (b : V × PyData) => RelV b.1 v ∧ Dp K H b.1 b.2) its zs → Vals (zs.map (·.1)) its ∧ DpAll K H (zs.map (·.1)) (zs.map (·.2))
  | _, _, .nil => ⟨.nil, .nil⟩
  | _, _, .cons ⟨r, h⟩ t => ⟨.cons r (each_vals t).1, .cons h (each_vals t).2⟩
theorem dpAll_zip2 {K : PySem.W.Frag} {H : Hp} : ∀ {xs : List V} {ds : List PyData}, DpAll K H xs ds → (xs.zip ds).map (·.2) = ds ∧ (xs.zip ds).map (·.1) = xs ∧ (xs.zip ds).length = ds.length
  | _, _, .nil => ⟨rfl, rfl, rfl⟩
  | _, _, .cons _ t => by
    obtain ⟨h1, h2, h3⟩ := dpAll_zip2 t
    exact ⟨by rw [List.zip_cons_cons, List.map_cons, h1], by rw [List.zip_cons_cons, List.map_cons, h2], by rw [List.zip_cons_cons, List.length_cons, List.length_cons, h3]⟩
section
variable {X : Cx}
theorem cr_sortedD (hu : X.A.units + 64 < cLine) : CallR X (.builtin "sorted") (rSortedD X.K) := by
  intro pins s σ H vs us Q I r h
  obtain ⟨a, xs, ds, rfl, hs, hd, hal, hk, hdep, q⟩ := h
  obtain ⟨its, rv, hl, hz⟩ := I.list hs
  rw [Vals.ref1 r]
  obtain ⟨z1, z2, z3⟩ := dpAll_zip2 hd
  have e := each_of rv hd
  have er : EachIs (fun (v : Value) (b : V × PyData) => ∃ as, Reads s.heap v b.2 as) its (xs.zip ds) := e.mono fun v b ⟨r1, r2⟩ => Dp.reads I b.2 b.1 v r2 r1
  have hlen : ds.length = xs.length := by
    have := congrArg List.length z2
    rw [List.length_map, z3] at this
    exact this
  refine PySem.W.sorted_data (enc := fun b : V × PyData => b.2) hl.isList e er (by rw [z1]; exact hal) (by rw [z1]; exact hk) (by rw [z3, hlen]; exact hz) (fun b hb => ?_) fun out ho eo => ?_
  · have hm : b.2 ∈ ds := by
      rw [← z1]
      exact List.mem_map.mpr ⟨b, hb, rfl⟩
    have := hdep _ hm
    omega
  · obtain ⟨ep, he'⟩ := PyProof.Rows.sortedAll_at s.heap its out.toArray
    obtain ⟨v1, v2⟩ := each_vals eo
    have pm : ((xs.zip ds).mergeSort (dataLe false fun b : V × PyData => b.2)).Perm (xs.zip ds) := List.mergeSort_perm _ _
    have p1 : (((xs.zip ds).mergeSort (dataLe false fun b : V × PyData => b.2)).map (·.1)).Perm xs := by
      have := pm.map (·.1)
      rw [z2] at this
      exact this
    have p2 : ((xs.zip ds).mergeSort (dataLe false fun b : V × PyData => b.2)).map (·.2) = sortD ds := by
      have := PySem.W.sort_maps (r := dataLe false fun b : V × PyData => b.2) (s := dataLe false fun d : PyData => d) (fun b : V × PyData => b.2) (l := xs.zip ds) (fun a _ b _ => rfl)
      rw [z1] at this
      exact this
    rw [p2] at v2
    refine ⟨.ref _, upd H (s.heap.objs.size + 1) (.lst _), I.laid (t' := s.toks) (fun _ _ => PyProof.Rows.sortedAll_old) (Nat.le_succ _) ⟨?_, out, ep, v1, he'⟩, rfl, q _ _ p1 v2 (I.hok.fresh (Nat.le_succ _))⟩
    rw [p1.length_eq]
    exact hz
end
end Ah
set_option Elab.async false
set_option linter.all false
set_option maxRecDepth 100000
set_option maxHeartbeats 4000000
/-! set(xs) of texts, any number of them below the scan's bound: its members, its size -/
namespace Ah
open PySem PySem.Spec PyProof.Rows L2
/-- the unlike ones among the first i, as they come -/
def fmt (xs : List Str) : Nat → List Str
  | 0 => []
  | i + 1 => if xs.getD i Str.empty ∈ fmt xs i then fmt xs i else fmt xs i ++ [xs.getD i Str.empty]
theorem fmt_le (xs : List Str) : ∀ i, (fmt xs i).length ≤ i
  | 0 => Nat.le_refl 0
  | i + 1 => by
    have h := fmt_le xs i
    show (if _ then _ else _ : List Str).length ≤ i + 1
    split
    · omega
    · rw [List.length_append, List.length_singleton]
      omega
theorem fmt_mem (xs : List Str) : ∀ i, i ≤ xs.length → ∀ x, x ∈ fmt xs i ↔ x ∈ xs.take i
  | 0, _, x => by simp [fmt]
  | i + 1, hi, x => by
    have ih := fmt_mem xs i (Nat.le_of_succ_le hi)
    have e : xs.getD i Str.empty = xs[i]'hi := by rw [List.getD_eq_getElem?_getD, List.getElem?_eq_getElem hi]; rfl
    rw [List.take_succ, List.getElem?_eq_getElem hi, List.mem_append, ← ih x]
    show x ∈ (if _ then _ else _ : List Str) ↔ _
    rw [e]
    split
    · rename_i hm
      constructor
      · exact fun h => .inl h
      · rintro (h | h)
        · exact h
        · rw [Option.toList_some, List.mem_singleton] at h
          rw [h]
          exact hm
    · rw [List.mem_append, Option.toList_some]
theorem fmt_nodup (xs : List Str) : ∀ i, (fmt xs i).Nodup
  | 0 => List.nodup_nil
  | i + 1 => by
    show (if _ then _ else _ : List Str).Nodup
    split
    · exact fmt_nodup xs i
    · rename_i hm
      rw [List.nodup_append]
      refine ⟨fmt_nodup xs i, by simp, fun a ha b hb => ?_⟩
      rw [List.mem_singleton] at hb
      rintro rfl
      rw [hb] at ha
      exact hm ha
theorem fmt_full {xs : List Str} (h : xs.Nodup) : ∀ i, i ≤ xs.length → fmt xs i = xs.take i
  | 0, _ => by simp [fmt]
  | i + 1, hi => by
    have e : xs.getD i Str.empty = xs[i]'hi := by rw [List.getD_eq_getElem?_getD, List.getElem?_eq_getElem hi]; rfl
    show (if _ then _ else _ : List Str) = _
    rw [e, fmt_full h i (Nat.le_of_succ_le hi), if_neg, List.take_succ, List.getElem?_eq_getElem hi]
    · rfl
    · intro hm
      obtain ⟨j, hj, ej⟩ := List.getElem_of_mem hm
      rw [List.length_take] at hj
      rw [List.getElem_take] at ej
      exact absurd ej (List.pairwise_iff_getElem.mp h j i (by omega) hi (by omega))
/-- as many unlike ones as there are: just where all are unlike -/
theorem fmt_eq {xs : List Str} : (fmt xs xs.length).length = xs.length ↔ xs.Nodup := by
  constructor
  · intro h
    have key : ∀ i, i ≤ xs.length → (fmt xs i).length = i := by
      intro i hi
      have mono : ∀ k, (fmt xs (i + k)).length ≤ (fmt xs i).length + k := by
        intro k
        induction k with
        | zero => exact Nat.le_refl _
        | succ k ih =>
          show (if _ then _ else _ : List Str).length ≤ _
          split
          · exact Nat.le_trans ih (by omega)
          · have q : (fmt xs (i.add k)).length ≤ (fmt xs i).length + k := ih
            rw [List.length_append, List.length_singleton]
            omega
      have m := mono (xs.length - i)
      rw [show i + (xs.length - i) = xs.length by omega, h] at m
      have := fmt_le xs i
      omega
    refine List.pairwise_iff_getElem.mpr fun i j hi hj hij e => ?_
    have h1 := key j (Nat.le_of_lt hj)
    have h2 := key (j + 1) hj
    have ed : xs.getD j Str.empty = xs[j] := by rw [List.getD_eq_getElem?_getD, List.getElem?_eq_getElem hj]; rfl
    have hm : xs.getD j Str.empty ∈ fmt xs j := by
      rw [fmt_mem xs j (Nat.le_of_lt hj), ed, ← e]
      exact List.mem_iff_getElem.mpr ⟨i, by rw [List.length_take]; omega, List.getElem_take⟩
    have h3 : fmt xs (j + 1) = fmt xs j := if_pos hm
    rw [h3, h1] at h2
    omega
  · intro h
    rw [fmt_full h _ (Nat.le_refl _), List.take_length]
theorem any_step (l : List Str) (v k : Str) : (l.any (· == k) || decide (k = v)) = (if v ∈ l then l else l ++ [v]).any (· == k) := by
  split
  · rename_i hm
    by_cases e : k = v
    · subst e
      have : l.any (· == k) = true := List.any_eq_true.mpr ⟨k, hm, beq_self_eq_true k⟩
      rw [this]
      rfl
    · rw [decide_eq_false e, Bool.or_false]
  · rw [List.any_append]
    congr 1
    simp only [List.any_cons, List.any_nil, Bool.or_false]
    by_cases e : k = v
    · subst e
      rw [decide_eq_true rfl, beq_self_eq_true]
    · rw [decide_eq_false e]
      exact (beq_eq_false_iff_ne.mpr fun q => e q.symm).symm
section
variable {prog : Program} {w : World} {A : Around} {R : Result → Shared → Prop} {J : Addr} {fp wr : List Addr} {G : Array GenState → Array GenState → Prop} {n : Nat} {P : Nat → Value → Prop} {St : Nat → Shared → Prop}
abbrev SetUpTo (prog : Program) (w : World) (h : Heap) (a : Addr) (xs : List Str) (i : Nat) : Prop := h.SetOf (PySem.strKind prog w) a (fun k => (fmt xs i).any (· == k)) (fmt xs i).length
theorem setUpTo_moves {h h' : Heap} {a : Addr} {xs : List Str} {i : Nat} (x : SetUpTo prog w h a xs i) (k : ∀ o, h.get? a = some o → h'.get? a = some o) : SetUpTo prog w h' a xs i := by
  obtain ⟨o, es, ep, t, ho, r⟩ := x
  exact ⟨o, es, ep, t, k o ho, r⟩
/-- the loop that fills the set at S from the walk W -/
theorem fills (W : WalksS prog w A.in1 J fp wr G n P St) (S : Addr) (apart : S ∉ fp) (xs : List Str) (room : n + 1 < scanBound) (told : ∀ i v, P i v → ∃ t, v = .str (xs.getD i Str.empty) t) :
    ∀ (left i : Nat) (s : Shared), i + left = n → St i s → SetUpTo prog w s.heap S xs i → (∀ s', Moved (S :: wr) G s s' → SetUpTo prog w s'.heap S xs n → R (.ok (.ret .none)) s') →
      codeAny (model prog w) A (.builtin "set.update.loop" ⟨[.ref S, .ref J], []⟩) R s := by
  have own : S ∉ wr := fun z => apart (W.sub _ z)
  have wide : ∀ {u v : Shared}, Moved wr G u v → Moved (S :: wr) G u v := fun m => m.mono fun b hb => List.mem_cons_of_mem _ hb
  intro left
  induction left with
  | zero =>
    intro i s e st x fin
    obtain rfl : i = n := e
    refine codeAny_builtin PyProof.Rows.F.entry_set_update_loop ?_
    rw [Around.under_plainId PyProof.Rows.F.plain_set_update_loop _]
    show wpAny (model prog w) A.in1 (pyNext (.ref J) >>= fun _ => _) _ _ s
    exact wpAny_bind (W.done s _ _ st fun s1 m => wpAny_pure (fin s1 (wide m) (setUpTo_moves x fun o ho => m.heap S o own ho)))
  | succ left ih =>
    intro i s e st x fin
    refine codeAny_builtin PyProof.Rows.F.entry_set_update_loop ?_
    rw [Around.under_plainId PyProof.Rows.F.plain_set_update_loop _]
    show wpAny (model prog w) A.in1 (pyNext (.ref J) >>= fun _ => _) _ _ s
    refine wpAny_bind (W.item i s _ _ (by omega) st fun v s1 hv st1 m => ?_)
    obtain ⟨t, rfl⟩ := told i v hv
    have x1 : SetUpTo prog w s1.heap S xs i := setUpTo_moves x fun o ho => m.heap S o own ho
    have few : (fmt xs i).length + 1 < scanBound := by
      have := fmt_le xs i
      omega
    show wpAny (model prog w) A.in1 (holding [Value.str (xs.getD i Str.empty) t] (setAdd S (.str (xs.getD i Str.empty) t)) >>= fun _ => _) _ _ s1
    refine wpAny_bind (wpAny_holding ?_)
    unfold setAdd
    refine wpAny_holding (wpAny_bind ((PySem.strKind prog w).pyHash (k := xs.getD i Str.empty) (strKind_is _ _ _ _) ?_))
    refine wpAny_setAddHashed_of (s := { s1 with toks := s1.toks + 1 }) (knd := PySem.strKind prog w) (strKind_is _ _ _ _) rfl x1 few fun h2 sb x2 => ?_
    have same : ∀ b o, b ≠ S → s1.heap.get? b = some o → h2.get? b = some o := fun b o hb ho => (sb.2 b hb).trans ho
    have x3 : SetUpTo prog w h2 S xs (i + 1) := by
      refine PyProof.Rows.SetOf_congr x2 (fun k => any_step (fmt xs i) (xs.getD i Str.empty) k) ?_
      by_cases hm : xs.getD i Str.empty ∈ fmt xs i
      · have q : (fmt xs i).any (· == xs.getD i Str.empty) = true := List.any_eq_true.mpr ⟨_, hm, beq_self_eq_true _⟩
        show (if (fmt xs i).any (· == xs.getD i Str.empty) = true then _ else _) = (if _ then fmt xs i else _ : List Str).length
        rw [if_pos q, if_pos hm]
      · have q : ¬ (fmt xs i).any (· == xs.getD i Str.empty) = true := fun z => by
          obtain ⟨y, hy, ey⟩ := List.any_eq_true.mp z
          rw [eq_of_beq ey] at hy
          exact hm hy
        show (if (fmt xs i).any (· == xs.getD i Str.empty) = true then _ else _) = (if _ then fmt xs i else _ : List Str).length
        rw [if_neg q, if_neg hm, List.length_append, List.length_singleton]
    refine wpAny_pure ⟨plainId_quiet PyProof.Rows.F.plain_set_update_loop _, ih (i + 1) _ (by omega) (W.frame _ s1 _ _ st1 (Nat.le_succ _) fun b hb o ho => same b o (fun z => apart (z ▸ hb)) ho) x3 fun s3 m3 x4 => ?_⟩
    exact fin s3 (Moved.trans W.gtrans ((wide m).then_heap (Nat.le_succ _) fun b o hb ho => same b o (fun z => hb (z ▸ List.mem_cons_self)) ho) m3) x4
end
section
variable {prog : Program} {w : World} {A : Around} {E : Value → Shared → Prop} {s : Shared}
/-- a new empty set -/
abbrev setO (led : Bool) : Obj := { cls := .type "set", dict := none, data := .set #[] 0 (.fresh 0 0 led) }
/-- set(xs), xs a list or a tuple of texts -/
theorem set_texts {l : Addr} {items : Array Value} {xs : List Str} {Q : Value → Shared → Prop} (quiet : A.handled = none) (src : s.heap.IsList l items ∨ s.heap.IsTuple l items) (texts : PyProof.Rows.StrsAre items.toList xs) (room : xs.length + 1 < scanBound)
    (h : ∀ h' tk, SetUpTo prog w h' s.heap.objs.size xs xs.length → (∀ b o, s.heap.get? b = some o → h'.get? b = some o) → Q (.ref s.heap.objs.size) { s with heap := h', toks := tk }) : wpAny (model prog w) A (call (.type "set") [.ref l]) Q E s := by
  obtain ⟨c, tl, hmro⟩ := PySem.F.called_set.mro
  have made := PySem.F.called_set.made
  have sub := PySem.F.called_set.sub
  have nt := PySem.F.called_set.notType
  have can := PySem.F.called_set.canCreate
  have tc := PySem.F.typeCall_set_1 (.ref l)
  refine wpAny_call (codeAny_of_tree ?_)
  show wpAny _ _ (callAny (.type "set") _) _ _ _
  refine wpAny_pure ⟨Code.quiet_builtin _ (by decide +kernel), codeAny_builtin PySem.F.entry_type_call ?_⟩
  rw [Around.under_plain (weight_type_call_type "set" [.ref l] []) rfl]
  repeat (any_goals (first | assumption | wp_step))
  refine codeAny_mono (code_set_new_1 (.ref l) (E := E) (Q₁ := fun ob s1 => ∃ led : Bool, ob = .ref s.heap.objs.size ∧ s1 = { s with heap := s.heap.push (setO led) }) fun led => ⟨led, rfl, rfl⟩) fun r s1 hr => ?_
  match r, hr with
  | .error e, hr => exact hr
  | .ok (.ret ob), hr =>
    obtain ⟨led, rfl, rfl⟩ := hr
    have at' : (s.heap.push (setO led)).get? s.heap.objs.size = some (setO led) := Heap.get?_push_size _ rfl
    have ty : Shared.TypeIs { s with heap := s.heap.push (setO led) } (.ref s.heap.objs.size) "set" := ⟨_, at', rfl⟩
    have look := PySem.F.called_set.init.lookup
    have bind := PySem.F.called_set.init.bind (.ref s.heap.objs.size)
    repeat (any_goals (first | assumption | wp_step))
    refine codeAny_mono (codeAny_call_builtin (R := wants (fun r s2 => r = .none ∧ ∃ h' tk, s2 = { s with heap := h', toks := tk } ∧ SetUpTo prog w h' s.heap.objs.size xs xs.length ∧ ∀ b o, s.heap.get? b = some o → h'.get? b = some o) E)
      PySem.F.called_set.init.plain PySem.F.entry_set_init (check_set_init_1 ty ?_)) fun r2 s2 hr2 => ?_
    · have still : A.in1.in1.in1.handled = none := by simp [quiet]
      have len : xs.length = items.size := by rw [← StrsAre.len_eq texts, Array.length_toList]
      have told : ∀ (i : Nat) (v : Value), items[i]? = some v → ∃ t, v = .str (xs.getD i Str.empty) t := fun i v hv => SS.strs_at texts i v (by rw [Array.getElem?_toList]; exact hv)
      have begun : ∀ X : Obj, SetUpTo prog w ((s.heap.push (setO led)).push X) s.heap.objs.size xs 0 := fun X =>
        PyProof.Rows.SetOf_congr ((PyProof.Rows.setObjOf_fresh (knd := PySem.strKind prog w) led).setOf (Heap.get?_push_of_some X at') (by unfold scanBound; omega)) (fun _ => rfl) rfl
      have two : (s.heap.push (setO led)).objs.size = s.heap.objs.size + 1 := Heap.size_push ..
      have ended : ∀ {X : Obj} {G : Array GenState → Array GenState → Prop} {s' : Shared} (m : Moved (s.heap.objs.size :: [(s.heap.push (setO led)).objs.size]) G { s with heap := (s.heap.push (setO led)).push X } s'), (∀ a b, G a b → b = a) →
          ∃ h' tk, s' = { s with heap := h', toks := tk } ∧ ∀ b o, s.heap.get? b = some o → h'.get? b = some o := fun {X G s'} m hg => by
        obtain ⟨h', g', d', tk', os'⟩ := s'
        obtain rfl : g' = s.gens := hg _ _ m.gens
        obtain rfl : d' = s.drawn := m.drawn
        obtain rfl : os' = s.os := m.os
        refine ⟨h', tk', rfl, fun b o e => m.heap b o (fun z => ?_) (Heap.get?_push_of_some _ (Heap.get?_push_of_some _ e))⟩
        have lt := Heap.lt_size e
        rw [two] at z
        simp only [List.mem_cons, List.not_mem_nil, or_false] at z
        rcases z with z | z
        · exact Nat.ne_of_lt lt z
        · exact Nat.ne_of_lt (Nat.lt_succ_of_lt lt) z
      rcases src with src | src
      · obtain ⟨⟨cl, di, da, sl⟩, ho, hc, n, hd⟩ := id src
        simp only at hc hd
        subst hc hd
        have there : (s.heap.push (setO led)).get? l = some { cls := .type "list", dict := di, data := .seq items n, slots := sl } := Heap.get?_push_of_some _ ho
        have src1 : (s.heap.push (setO led)).IsList l items := ⟨_, there, rfl, n, rfl⟩
        have no1 := PySem.F.sub_list_set
        have no2 := PySem.F.sub_list_frozenset
        have no3 : (Value.type "list" == Value.type "dict") = false := by decide
        have lt := Heap.lt_size ho
        unfold Builtin.«set.__init__» noKeywords Builtin.Frozenset.updateFrom
        generalize hIt : pyIter = It
        wp_walk
        subst hIt
        refine wpAny_pyIter_list src1 (wpAny_bind (wpAny_runValue ?_))
        refine fills ((Walks.list still _ l (by rw [two]; exact Nat.ne_of_lt (Nat.lt_succ_of_lt lt)) items).toS) s.heap.objs.size (by rw [two]; simp only [List.mem_cons, List.not_mem_nil, or_false]; exact fun z => z.elim (Nat.ne_of_lt (Nat.lt_succ_self _)) (Nat.ne_of_gt lt)) xs (by rw [← len]; exact room) told items.size 0 _ (Nat.zero_add _)
          ⟨⟨_, Heap.get?_push_size _ rfl, rfl, rfl⟩, src1.push _⟩ (begun _) fun s' m x => ?_
        obtain ⟨h', tk, rfl, keep⟩ := ended m fun _ _ e => e
        rw [← len] at x
        exact wpAny_pure (wpAny_pure ⟨rfl, h', tk, rfl, x, keep⟩)
      · obtain ⟨⟨cl, di, da, sl⟩, ho, hc, n, hd⟩ := id src
        simp only at hc hd
        subst hc hd
        have there : (s.heap.push (setO led)).get? l = some { cls := .type "tuple", dict := di, data := .seq items n, slots := sl } := Heap.get?_push_of_some _ ho
        have src1 : (s.heap.push (setO led)).IsTuple l items := ⟨_, there, rfl, n, rfl⟩
        have no1 := PySem.F.sub_tuple_set
        have no2 := PySem.F.sub_tuple_frozenset
        have no3 : (Value.type "tuple" == Value.type "dict") = false := by decide
        have lt := Heap.lt_size ho
        unfold Builtin.«set.__init__» noKeywords Builtin.Frozenset.updateFrom
        generalize hIt : pyIter = It
        wp_walk
        subst hIt
        refine wpAny_pyIter_tuple src1 (wpAny_bind (wpAny_runValue ?_))
        refine fills ((Walks.tuple still _ l (by rw [two]; exact Nat.ne_of_lt (Nat.lt_succ_of_lt lt)) items).toS) s.heap.objs.size (by rw [two]; simp only [List.mem_cons, List.not_mem_nil, or_false]; exact fun z => z.elim (Nat.ne_of_lt (Nat.lt_succ_self _)) (Nat.ne_of_gt lt)) xs (by rw [← len]; exact room) told items.size 0 _ (Nat.zero_add _)
          ⟨⟨_, Heap.get?_push_size _ rfl, rfl, rfl⟩, src1.push _⟩ (begun _) fun s' m x => ?_
        obtain ⟨h', tk, rfl, keep⟩ := ended m fun _ _ e => e
        rw [← len] at x
        exact wpAny_pure (wpAny_pure ⟨rfl, h', tk, rfl, x, keep⟩)
    · match r2, hr2 with
      | .error e, hr2 => exact hr2
      | .ok (.ret v), hr2 =>
        obtain ⟨rfl, h', tk, rfl, pd, keep⟩ := hr2
        repeat (any_goals (first | assumption | wp_step))
        exact h _ _ pd keep
  | .ok .next, hr => exact hr.elim
  | .ok .brk, hr => exact hr.elim
  | .ok .cont, hr => exact hr.elim
end
end Ah
set_option Elab.async false
set_option linter.all false
set_option maxRecDepth 100000
set_option maxHeartbeats 4000000
namespace Ah
open PySem PySem.Spec PyProof.Rows L2
/-- at a: the set of these texts -/
def SetT (P : Program) (w : World) (a : Addr) (xs : List Str) : HO := .ext fun h => SetUpTo P w h a xs xs.length
section
variable {X : Cx}
theorem setT_new {P : Program} {w : World} {H : Hp} {h : Heap} {a : Addr} {xs : List Str} (R : SetUpTo P w h a xs xs.length) : ObjOk P w H h a (SetT P w a xs) := by
  have ⟨o, _, _, _, ho, _⟩ := R
  exact ⟨R, ⟨o, ho⟩, fun h1 h2 p k => setUpTo_moves p k⟩
def rSetTx (K : PySem.W.Frag) (P : Program) (w : World) : List V → Hp → VK → Prop := fun vs H Q => ∃ (l : Addr) (xs : List Str), vs = [V.ref l] ∧ (SqL K H l (xs.map V.str) ∨ SqT K H l (xs.map V.str)) ∧ xs.length + 1 < scanBound ∧
  ∀ p, H p = none → Q (.ref p) (upd H p (SetT P w p xs))
theorem cr_setTx (hc : X.calm = true) : CallR X (.type "set") (rSetTx X.K X.prog X.w) := by
  intro pins s σ H vs us Q I r h
  obtain ⟨l, xs, rfl, hq, few, q⟩ := h
  rw [Vals.ref1 r]
  have src : ∃ its : List Value, Vals (xs.map V.str) its ∧ (s.heap.IsList l its.toArray ∨ s.heap.IsTuple l its.toArray) := by
    rcases hq with hq | hq
    · obtain ⟨its, rv, pl, _⟩ := I.list hq
      exact ⟨its, rv, .inl pl.isList⟩
    · obtain ⟨its, rv, pl, _⟩ := I.tuple hq
      exact ⟨its, rv, .inr pl⟩
  obtain ⟨its, rv, src⟩ := src
  refine set_texts (I.ok.hd hc) src (by simpa using strsAre_of rv) few fun h' tk x k => ?_
  exact ⟨.ref _, upd H s.heap.objs.size (SetT X.prog X.w s.heap.objs.size xs), I.laid (t' := tk) k (Nat.le_refl _) (setT_new x), rfl, q _ (I.hok.fresh (Nat.le_refl _))⟩
def rLenSetT (P : Program) (w : World) : List V → Hp → VK → Prop := fun vs H Q => ∃ (a : Addr) (xs : List Str), vs = [V.ref a] ∧ H a = some (SetT P w a xs) ∧ xs.length ≤ 1000000 ∧ Q (.int ((fmt xs xs.length).length : Nat)) H
theorem cr_lenSetT : CallR X (.builtin "len") (rLenSetT X.prog X.w) := by
  intro pins s σ H vs us Q I r h
  obtain ⟨a, xs, rfl, ha, few, q⟩ := h
  rw [Vals.ref1 r]
  have x : SetUpTo X.prog X.w s.heap a xs xs.length := (I.hok a _ ha).1
  obtain ⟨o, es, ep, t, ho, hex, hd, _, _, _, hf, hn⟩ := x
  have le := fmt_le xs xs.length
  refine call_len_set ho hex hd hf (by rw [hn] <;> omega) ⟨.int (fmt xs xs.length).length, H, I.tok _, ⟨_, by rw [hn]⟩, q⟩
end
end Ah
set_option Elab.async false
set_option linter.all false
set_option maxRecDepth 100000
set_option maxHeartbeats 4000000
/-! enumerate(t), t a tuple, walked by a for or a comprehension -/
namespace Ah
open PySem PySem.Spec PyProof.Rows L2
open AutoSeq1 (wpAny_loadPart')
abbrev tupIt (t : Addr) : Obj := { cls := .type "tuple_iterator", data := .fields #[.ref t, .int 0 0] }
abbrev enumO (it : Addr) : Obj := { cls := .type "enumerate", data := .fields #[.none, .bool false, .ref it, rawInt 0, .none, .none] }
theorem enum_new_tuple (t : Addr) (items : Array Value) (n : Nat) (di : Option Addr) (sl : Array (Option Value)) :
    Meets (Builtin.«enumerate.__new__» ⟨[.type "enumerate", .ref t], []⟩) (fun _ R s => s.heap.get? t = some { cls := .type "tuple", dict := di, data := .seq items n, slots := sl } ∧
      R (.ok (.ret (.ref (s.heap.push (tupIt t)).objs.size))) { s with heap := (s.heap.push (tupIt t)).push (enumO s.heap.objs.size) }) :=
  .of_wp fun prog w A R s h => by
    obtain ⟨hp, g, d, tk, os⟩ := s
    obtain ⟨there, h⟩ := h
    have sube := sub_enumerate
    have isT : Heap.IsTuple (Shared.heap ⟨hp, g, d, tk, os⟩) t items := ⟨_, there, rfl, n, rfl⟩
    wp_walk using wpAny_loadPart' there
    refine wpAny_stack_any fun st => wpAny_pure ?_
    split
    · rename_i c _ _ _ _ _
      cases (c == Value.type "enumerate") <;> (wp_walk using wpAny_loadPart' there, wpAny_pyIter_tuple isT; exact ⟨_, rfl, h⟩)
    · wp_walk using wpAny_loadPart' there, wpAny_pyIter_tuple isT
      exact ⟨_, rfl, h⟩
section
variable {prog : Program} {w : World} {A : Around} {E : Value → Shared → Prop} {s : Shared}
theorem call_enum_tuple {t : Addr} {items : Array Value} {Q : Value → Shared → Prop} (isT : s.heap.IsTuple t items)
    (h : ∀ h', IsEnum h' (s.heap.objs.size + 1) s.heap.objs.size 0 .none → h'.IsTupleIter s.heap.objs.size t 0 → (∀ b o, s.heap.get? b = some o → h'.get? b = some o) → Q (.ref (s.heap.objs.size + 1)) { s with heap := h' }) :
    wpAny (model prog w) A (call (.type "enumerate") [.ref t]) Q E s := by
  obtain ⟨⟨c, di, dt, sl⟩, there, hc, n, hd⟩ := isT
  simp only at hc hd
  subst hc hd
  refine callType_new F.called_enumerate (by decide) (F.typeCall_enumerate_1 _) (F.newCall_enumerate_1 _) (fun ob => F.args_object_init_2 ob _) F.entry_enumerate_new (enum_new_tuple t items n di sl) ⟨there, ?_⟩
  have two : (s.heap.push (tupIt t)).objs.size = s.heap.objs.size + 1 := Heap.size_push ..
  have isE : IsEnum ((s.heap.push (tupIt t)).push (enumO s.heap.objs.size)) (s.heap.objs.size + 1) s.heap.objs.size 0 .none := by
    have q := Heap.get?_push_size (s.heap.push (tupIt t)) (o := enumO s.heap.objs.size) rfl
    rw [two] at q
    exact q
  show _ ∧ _
  rw [two]
  exact ⟨⟨_, isE, rfl⟩, h _ isE ⟨_, Heap.get?_push_of_some _ (Heap.get?_push_size _ rfl), rfl, rfl⟩ fun b o x => Heap.get?_push_of_some _ (Heap.get?_push_of_some _ x)⟩
end
theorem tup_one {X : Cx} {pins : List (Addr × Obj)} {σ : L2.St} {H : Hp} {s : Shared} {a : Addr} {xs ys : List V} (I : Inv X pins σ H s) (h : SqT X.K H a xs) (h' : SqT X.K H a ys) : xs = ys := by
  obtain ⟨us, r, ⟨o, ho, _, _, hd⟩, _⟩ := I.tuple h
  obtain ⟨vs, r', ⟨o', ho', _, _, hd'⟩, _⟩ := I.tuple h'
  rw [ho] at ho'
  cases ho'
  rw [hd] at hd'
  injection hd' with e _
  have e2 : us = vs := by simpa using congrArg Array.toList e
  subst e2
  exact r.inj r'
theorem enum_end_tuple {prog : Program} {w : World} {A : Around} {E : Value → Shared → Prop} {s : Shared} {e it t : Addr} {i : Nat} {k : Int} {old : Value} {items : Array Value} {Q : Option Value → Shared → Prop} (quiet : A.handled = none)
    (isE : IsEnum s.heap e it k old) (isI : s.heap.IsTupleIter it t i) (isT : s.heap.IsTuple t items) (over : items[i]? = none) (h : ∀ h', Heap.ExtBut it s.heap h' → Q none { s with heap := h' }) : wpAny (model prog w) A (pyNext (.ref e)) Q E s := by
  have ty : s.TypeIs (.ref e) "enumerate" := ⟨_, isE, rfl⟩
  unfold pyNext
  refine wpAny_bind (wpAny_attempt (wpAny_callSpecial?_slot (name := Str.ofString "__next__") ty F.slot_enumerate_next (wpAny_call_entry F.slot_enumerate_next ty F.entry_enumerate_next ?_ (F.args_enumerate_next_1 _))))
  show wpAny _ _ (field (.ref e) 2 >>= fun _ => _) _ _ _
  refine wpAny_bind (wpAny_field isE rfl (x := .ref it) rfl (wpAny_bind (wpAny_nextOf_tuple_end quiet isI isT over fun h' x ex hx => ?_)))
  obtain ⟨o, ho, hc⟩ := hx
  exact wpAny_bind (wpAny_isInstance (b := true) (T := "StopIteration") ⟨o, ho, hc⟩ isSubtype_stop (wpAny_pure (h _ ex)))
/-- the tuple at a, each item in a new pair -/
def IteT (K : PySem.W.Frag) (a : Addr) : It :=
  ⟨fun i H => ∃ (xs : List V) (x : V), SqT K H a xs ∧ xs[i]? = some x, fun i H v H' => ∃ T x, v = .ref T ∧ H T = none ∧ H' = upd H T (.tup [.int (i : Nat), x]) ∧ ∀ xs, SqT K H a xs → xs[i]? = some x, fun i H => ∃ xs : List V, SqT K H a xs ∧ xs.length ≤ i⟩
theorem turn_enumT {P : Program} {w : World} {K : PySem.W.Frag} {elts : List Expr} {kk : Nat} {tpos : Pos} (a e it : Addr) :
    Turn P w K (.Tuple elts kk tpos) (IteT K a) [e, it] e (fun i h => (∃ old, IsEnum h e it ((i : Nat) : Int) old) ∧ h.IsTupleIter it a i ∧ e ≠ it ∧ a ≠ it ∧ a ≠ e) where
  mem := by simp
  obj := fun i h st b hb => by
    obtain ⟨⟨old, isE⟩, ⟨o, ho, hc, hd⟩, _⟩ := st
    rcases (show b = e ∨ b = it by simpa using hb) with z | z
    · rw [z]; exact ⟨_, isE, fun v q => nomatch q⟩
    · rw [z]; exact ⟨o, ho, fun v q => by rw [hd] at q; cases q⟩
  keep := fun i h h' st k => ⟨⟨st.1.choose, k e (by simp) _ st.1.choose_spec⟩, st.2.1.at fun o q => k it (by simp) o q, st.2.2⟩
  item := by
    intro X hP hw hK hc i pins s σ H E I hf st hg
    subst hP hw hK
    obtain ⟨⟨old, isE⟩, isI, nei, nai, nae⟩ := st
    obtain ⟨xs, x, hq, hx⟩ := hg
    obtain ⟨its, rv, isT, hz⟩ := I.tuple hq
    obtain ⟨u, hu, ru⟩ := rv.get hx
    have elt : e < s.heap.objs.size := Heap.lt_size isE
    have ilt : it < s.heap.objs.size := isI.elim fun _ q => Heap.lt_size q.1
    have hul : i < its.length := (List.getElem?_eq_some_iff.mp hu).1
    refine wpAny_pyNext_enum_itemD (Draws.tuple (A := X.A.in1) (I.ok.hd hc) it a nai its.toArray) isE ⟨isI, isT⟩ (by simpa using hul) nei (by simp [nei, Ne.symm nae]) fun y h1 tk hy out st1 newT hsz keep => ?_
    have ey : y = u := by
      have q : its[i]? = some y := by simpa using hy
      rw [hu] at q
      exact (Option.some.inj q).symm
    subst ey
    refine ⟨_, rfl, wpAny_letOwnedTupleGo_enum (s := { s with heap := h1, toks := tk + 1 }) out fun h2 isE2 sb => ?_⟩
    have newT2 : h2.get? s.heap.objs.size = some { cls := .type "tuple", data := .seq #[.int i tk, y] } := (sb.2 _ (Nat.ne_of_gt elt)).trans newT
    have okT : ObjOk X.prog X.w (upd H s.heap.objs.size (.tup [.int (i : Nat), x])) h2 s.heap.objs.size (.tup [.int (i : Nat), x]) :=
      ⟨by show 2 ≤ sizeLine; decide, [.int i tk, y], .cons ⟨_, rfl⟩ (.cons ru .nil), ⟨_, newT2, rfl, _, rfl⟩⟩
    have I1 : Inv X pins σ (upd H s.heap.objs.size (.tup [.int (i : Nat), x])) { s with heap := h2, toks := tk + 1 } :=
      I.turnedNew (ch := [e, it]) (fun b ob hb q => (sb.2 b (fun z => hb (by simp [z]))).trans (keep b ob (fun z => hb (by simp [z])) (fun z => hb (by simp [z])) q)) hf (Nat.le_refl _) okT
    refine ⟨.ref s.heap.objs.size, _, I1, rfl, ⟨_, x, rfl, I.hok.fresh (Nat.le_refl _), rfl, fun ys hy => ?_⟩, ⟨⟨y, ?_⟩, st1.1.at fun o q => (sb.2 it (Ne.symm nei)).trans q, nei, nai, nae⟩, fun b hb => ?_⟩
    · have e1 : ys = xs := by
        exact tup_one I hy hq
      rw [e1]
      exact hx
    · rw [show ((i + 1 : Nat) : Int) = (i : Int) + 1 by omega]
      exact isE2
    · have old' : b < s.heap.objs.size := by
        rcases (show b = e ∨ b = it by simpa using hb) with z | z
        · rw [z]; exact elt
        · rw [z]; exact ilt
      rw [upd_ne (Nat.ne_of_lt old')]
      exact (hf b hb).1
  done := by
    intro X hP hw hK hc i pins s σ H E I hf st hg
    subst hP hw hK
    obtain ⟨⟨old, isE⟩, isI, nei, nai, nae⟩ := st
    obtain ⟨xs, hq, hx⟩ := hg
    obtain ⟨its, rv, isT, hz⟩ := I.tuple hq
    obtain ⟨f0, f1, f2, f3, f4, f5⟩ := hf it (by simp)
    have hl := rv.length
    exact enum_end_tuple (I.ok.hd hc) isE isI isT (by simp; omega) fun h1 eb => ⟨rfl, I.turned (t' := s.toks) (fun b o hb q => eb b o hb q) f0 f1 f3 f4 f5⟩
  self := fun A i s Q E st h => wpAny_pyIter_enum st.1.choose_spec h
def iEnumT (K : PySem.W.Frag) (ta : TA) : TI := fun σ H R => ta σ H fun vs H1 => ∃ a xs, vs = [.ref a] ∧ SqT K H1 a xs ∧ R (IteT K a) H1
theorem pi_enumT {X : Cx} {e : Expr} {ta : TA} {p pos tpos : Pos} {elts : List Expr} {kk : Nat} (hg : Gl X "enumerate") (hm : X.mg "enumerate" = none) (ha : PA X [e] ta) (one : starEach [e] X.env = [(false, eval e X.env)] := by rfl) :
    PI X (.Tuple elts kk tpos) (.Call (.Name "enumerate" p) [e] [] pos) (iEnumT X.K ta) := by
  refine ⟨fun pins s σ H R I h => ?_⟩
  refine Call_ (ld_blt I hg hm boot_enumerate (PyProof.Rows.callWith_type1 (thn (ha.run pos pins s σ H _ I h) fun us s1 ⟨vs, H1, I1, r1, q1⟩ => ?_) one rfl))
  obtain ⟨a, xs, rfl, hq, q⟩ := q1
  rw [Vals.ref1 r1]
  obtain ⟨its, rv, isT, hz⟩ := I1.tuple hq
  have alt : a < s1.heap.objs.size := isT.elim fun _ q => Heap.lt_size q.1
  refine call_enum_tuple isT fun h1 isE isI keep => wpAny_pyIter_enum isE ?_
  have I2 : Inv X pins σ H1 { s1 with heap := h1 } := I1.kept (t' := s1.toks) keep
  refine ⟨s1.heap.objs.size + 1, [s1.heap.objs.size + 1, s1.heap.objs.size], _, _, H1, rfl, I2, turn_enumT a (s1.heap.objs.size + 1) s1.heap.objs.size, ⟨⟨.none, isE⟩, isI, Nat.succ_ne_self _, Nat.ne_of_lt alt, Nat.ne_of_lt (Nat.lt_succ_of_lt alt)⟩, fun b hb => ?_, q⟩
  have new : s1.heap.objs.size ≤ b := by
    rcases (show b = s1.heap.objs.size + 1 ∨ b = s1.heap.objs.size by simpa using hb) with z | z
    · rw [z]; exact Nat.le_succ _
    · rw [z]; exact Nat.le_refl _
  exact I1.fpOk new (I1.hok.fresh new)
end Ah
set_option Elab.async false
set_option linter.all false
set_option maxRecDepth 100000
set_option maxHeartbeats 2000000
namespace PySem
namespace LowX
open PySem.W PySem.Calls PyProof.Rows PySem.HandSPX
/-! ### the text of __init__ -/
def iA (p1 p2 : Pos) : Arguments := { posonlyargs := [], args := [{ arg := "self", annotation := none, pos := p1 }, { arg := "asked", annotation := none, pos := p2 }], vararg := none, kwonlyargs := [], kw_defaults := [], kwarg := none, defaults := [] }
def iB (q1 q2 q3 q4 : Pos) : List Stmt := [.Assign [.Attribute (.Name "self" q1) "asked" q2] (.Name "asked" q3) q4]
def iS : Scope := { kind := .function, names := [(PySem.Str.ofString "self", .local), (PySem.Str.ofString "asked", .local)], isGenerator := false, isCoroutine := false, more := [] }
/-- what the written part says of Low, at C, and of its __init__, at fI -/
structure LowTxt (K : Frag) (mg : Str → Option Value) (C fI : Addr) : Prop where
  gC : mg "NoRow" = some (.ref C)
  cls : ∃ nm q N bs bm sn sub ab col dd k0 k1 k2 k3 k5, K.lookup C = some (excClassObj nm q C N bs bm true sn sub ab col dd k0 k1 k2 k3 k5 "ValueError.__new__") ∧ refsVE bm = true
  sa : findIn K (.ref C) "__setattr__" = some (some (.builtin "object.__setattr__"))
  ga : findIn K (.ref C) "__getattribute__" = some (some (.builtin "BaseException.__getattribute__"))
  gg : findIn K (.ref C) "__getattr__" = some none
  noN : findIn K (.ref C) "asked" = some none
  iC : findIn K (.ref C) "__init__" = some (some (.ref fI))
  tC : typeIn K (.ref fI) = some (.type "function")
  kC : keepIn K (.ref C) = true
  exC : subIn K (.ref C) (.type "BaseException") = some true
  tyC : typeIn K (.ref C) = some (.type "type")
  hdC : hasDictIn K C = true
  te : exmOne K (.ref C) (.ref C) = some true
  fn : ∃ (oc : Value) (od : Option Addr) (doc pm : Value) (an : Option Addr) (cdv ct : Value) (osl : Array (Option Value)) (p1 p2 q1 q2 q3 q4 : Pos),
    K.lookup fI = some ⟨oc, od, .func (fnOf "__init__" "NoRow.__init__" (iA p1 p2) (iB q1 q2 q3 q4) iS .none .none doc pm an cdv ct), osl⟩ ∧ codeIn K cdv "NoRow.__init__" = true
theorem one_size (v : Value) : [v].length ≤ sizeLine := by
  rw [sizeLine_eq]
  exact (by decide : 1 ≤ 16777216)
theorem kept_but {K : Frag} {h h' : Heap} {x : Addr} (X : K.In h) (hx : K.lookup x = none) (k : ∀ b o, b ≠ x → h.get? b = some o → h'.get? b = some o) : K.In h' := fun a o e =>
  k a o (fun z => by rw [z, hx] at e; cases e) (X a o e)
theorem ldC {M : Model} {s : Shared} {name : Str} {scope : Scope} {L a : Addr} {cd : Value} {m : Str → Option Value} {x : Str} {pos : Pos} {v : Value} {Q : Value → Shared → Prop} {A : Around} {E : Value → Shared → Prop} (hn : s.heap.Ns L m) (hv : m x = some v) (h : Q v s)
    (hk : scope.kind = .function := by rfl) (hl : (envOfC name scope L a cd).kindOf x = some .local := by rfl) (hd : (x == ("__debug__" : Str)) = false := by decide) :
    wpAny M A (eval (.Name x pos) (envOfC name scope L a cd)) Q E s := wpAny_Name (wpAny_loadName_local hk hl hn hv h) hd
/-- what __init__ leaves of a fresh exception at x -/
structure InitEnd (h h' : Heap) (x C dx t1 : Addr) (v : Value) : Prop where
  keep : ∀ b o, b ≠ x → h.get? b = some o → h'.get? b = some o
  obj : h'.get? x = some { cls := .ref C, dict := some dx, data := .fields #[.ref t1, .none, .none, .none, .bool false, .none] }
  dbig : h.objs.size ≤ dx
  dne : dx ≠ x
  ns : h'.Ns1 dx (fun y => if y = "asked" then some v else none)
/-- a made Low -/
structure OwnMade (h h' : Heap) (e C d : Addr) (v : Value) : Prop where
  keep : ∀ b o, h.get? b = some o → h'.get? b = some o
  new : h.objs.size ≤ e
  obj : ∃ oe vs, h'.get? e = some oe ∧ oe.cls = .ref C ∧ oe.dict = some d ∧ oe.data = .fields vs ∧ vs[1]? = some .none
  dbig : h.objs.size ≤ d
  dne : d ≠ e
  ns : h'.Ns1 d (fun y => if y = "asked" then some v else none)
section
variable {prog : Program} {w : World} {A : Around} {E : Value → Shared → Prop} {R : Result → Shared → Prop} {s : Shared} {K : Frag} {mg : Str → Option Value} {C fI : Addr}
theorem low_init (T : LowTxt K mg C fI) {x t0 : Addr} {v : Value} (X : K.In s.heap) (hlim : s.heap.NoLimit) (hx : s.heap.get? x = some (excO C t0)) (hnx : K.lookup x = none) (hroom : A.depth < recursionLimit)
    (hq : ∀ h' tk dx, InitEnd s.heap h' x C dx t0 v → R (.ok (.ret .none)) { s with heap := h', toks := tk }) :
    codeAny (model prog w) A (.call (.ref fI) ⟨[.ref x, v], []⟩) R s := by
  obtain ⟨oc, od, doc, pm, an, cdv, ct, osl, p1, p2, q1, q2, q3, q4, ho, hcd⟩ := T.fn
  obtain ⟨nm, q, N, bs, bm, sn, sub, ab, col, dd, k0, k1, k2, k3, k5, hC, hbm⟩ := T.cls
  have hcl : clsIn K C = some { name := nm, bases := bs, mro := .ref C :: bm, ns := N, qualname := q, hasDict := true, slotNames := sn, subclasses := sub, abstract := ab, collection := col, hasDel := false } := by unfold clsIn; rw [hC] <;> rfl
  refine Att.call_fn (binds := [("self", .ref x), ("asked", v)]) X hlim ho hcd hroom (BindsTo.of_eq (by first | rfl | with_unfolding_all rfl)) (by first | rfl | decide | with_unfolding_all rfl) (fun s₁ IC => ?_) rfl rfl rfl
  obtain ⟨h₁, tk₁, rfl⟩ := IC.toInCall.same
  have k : ∀ b o, s.heap.get? b = some o → h₁.get? b = some o := IC.toInCall.keep
  have hn := IC.toInCall.ns
  have hxL : s.heap.objs.size ≠ x := Nat.ne_of_gt (Heap.lt_size hx)
  have X₁ : K.In h₁ := X.keeps k
  have hx₁ := k _ _ hx
  -- self.by = by
  show wpAny _ _ (execs _ _) _ _ _
  refine wpAny_execs_cons (plainObj_wpAny_Assign_Attribute ?_)
  refine ldC (v := v) hn (by first | rfl | with_unfolding_all rfl | kernel_rfl) (ldC (v := .ref x) hn (by first | rfl | with_unfolding_all rfl | kernel_rfl) ?_)
  refine set_plain X₁ (ox := excO C t0) (od := none) ⟨hx₁, rfl, rfl, trivial⟩ T.sa ?_
  refine exc_osa X₁ hx₁ hcl (show refsVE (.ref C :: bm) = true from hbm) rfl T.noN (fun h₃ tk₃ dx k₃ dn dne hx₃ hn₃ => ?_)
  show wpAny _ _ (execs _ _) _ _ _
  have z : s.heap.objs.size < h₁.objs.size := hn.lt
  exact wpAny_execs_nil (hq h₃ tk₃ dx ⟨fun b o hb e => k₃ b o hb (k b o e), hx₃, Nat.le_of_lt (Nat.lt_of_lt_of_le z dn), dne, hn₃⟩)
theorem low_made (T : LowTxt K mg C fI) {v : Value} (X : K.In s.heap) (hlim : s.heap.NoLimit) (hroom : A.depth + 1 < recursionLimit)
    (hq : ∀ h' tk e d, OwnMade s.heap h' e C d v → R (.ok (.ret (.ref e))) { s with heap := h', toks := tk }) :
    codeAny (model prog w) A (.call (.ref C) ⟨[v], []⟩) R s := by
  obtain ⟨nm, q, N, bs, bm, sn, sub, ab, col, dd, k0, k1, k2, k3, k5, hC, hbm⟩ := T.cls
  obtain ⟨hp, g, dr, tk, os⟩ := s
  have k : ∀ b o, hp.get? b = some o → ((hp.push (kdv_tup [v])).push (excO C hp.objs.size)).get? b = some o := fun b o e => Heap.get?_push_of_some _ (Heap.get?_push_of_some _ e)
  have hget : ((hp.push (kdv_tup [v])).push (excO C hp.objs.size)).get? (hp.objs.size + 1) = some (excO C hp.objs.size) := by heap_get
  have hnx : K.lookup (hp.objs.size + 1) = none := by
    cases e : K.lookup (hp.objs.size + 1) with
    | none => rfl
    | some o =>
      have z : hp.get? (hp.objs.size + 1) = some o := X _ _ e
      exact absurd (Nat.lt_of_succ_lt (Heap.lt_size z)) (Nat.lt_irrefl _)
  refine call_own F.excBase_ValueError (fun X => refsVE_contains X bm hbm) (X _ _ hC) (looks_findIn X T.iC) (fun self => bind_fn X self T.tC) (one_size v) ?_
  refine low_init (s := ⟨(hp.push (kdv_tup [v])).push (excO C hp.objs.size), g, dr, tk, os⟩) T (X.keeps k) (hlim.keeps k) hget hnx ?_ fun h' tk' dx ⟨k', hx, dn, dne, hns⟩ => ?_
  · show A.depth + 1 < recursionLimit
    exact hroom
  · have old : ∀ b o, hp.get? b = some o → h'.get? b = some o := fun b o e => k' b o (Nat.ne_of_lt (Nat.lt_succ_of_lt (Heap.lt_size e))) (k b o e)
    have z : hp.objs.size + 1 + 1 ≤ dx := by
      first
        | (simpa only [Heap.size_push] using dn)
        | exact dn
        | (have q := dn; rw [Heap.size_push, Heap.size_push] at q; exact q)
    exact ⟨rfl, hq h' tk' (hp.objs.size + 1) dx ⟨old, Nat.le_succ _, ⟨_, _, hx, rfl, rfl, rfl, rfl⟩, Nat.le_trans (Nat.le_trans (Nat.le_succ _) (Nat.le_succ _)) z, dne, hns⟩⟩
end
end LowX
end PySem
namespace L2
open PySem PySem.Spec PyProof.Rows
theorem relO_low {v : V} {v' : Value} (r : RelV v v') (f : Str) : RelO (List.lookup f [(("asked" : Str), v)]) (if f = "asked" then some v' else none) := by
  by_cases hw : f = "asked"
  · subst hw
    rw [if_pos rfl]
    have q : List.lookup ("asked" : Str) [(("asked" : Str), v)] = some v := by simp [List.lookup]
    rw [q]
    exact r
  · rw [if_neg hw]
    have qw : (f == ("asked" : Str)) = false := by simpa using hw
    have q2 : List.lookup f [(("asked" : Str), v)] = none := by simp [List.lookup, qw]
    rw [q2]
    trivial
section
variable {X : Cx} {C fI : Addr}
/-- Low(e) -/
def tMkLow (C : Addr) (ta : TA) : St → Hp → XK → Prop := fun σ H Q => ta σ H fun vs H1 => ∃ v, vs = [v] ∧ ∀ d, H1 d = none → Q (.ref C) (some d) (upd H1 d (.xd [(("asked" : Str), v)]))
theorem pmk_low {a : Expr} {ta : TA} {p pos : Pos} {k : Nat} (T : PySem.LowX.LowTxt X.K X.mg C fI) (hr : Room k X.A) (ha : PA X [a] ta) (hg : Gl X "NoRow" := by rfl)
    (he : starEach (a :: []) X.env = (false, eval a X.env) :: starEach [] X.env := by rfl) (hpl : (backTo pos (starEach [] X.env)).any (·.1) = false := by rfl) :
    PMk X (.Call (.Name "NoRow" p) [a] [] pos) (tMkLow C ta) := by
  intro pins s σ H Q I h
  refine wpAny_Call_Name_kw (ld_glob I hg T.gC ?_)
  refine PySem.W.callWith_K (h₀ := X.base) I.ok.mod.kin T.kC (thn (ha.run pos pins s σ H _ I h) fun us s1 hh => ?_) he hpl
  obtain ⟨vs, H1, I1, r1, v, ev, q1⟩ := hh
  subst ev
  refine ⟨I1.kIn, ?_⟩
  cases r1 with
  | cons rv rn =>
    rename_i v' us'
    cases rn
    show wpAny _ _ (call (.ref C) [v']) _ _ _
    have hlim := I1.nolimit
    obtain ⟨hp, g, dr, tk, os⟩ := s1
    refine wpAny_call (PySem.LowX.low_made T I1.kIn hlim (by have := hr.dp; omega) fun h' tk' e d M => ?_)
    show MkP X pins σ Q (.ref e) ⟨h', g, dr, tk', os⟩
    obtain ⟨oe, fv, hoe, hc, hd, hdat, h1⟩ := M.obj
    have hns := M.ns
    obtain ⟨G', g1, g2⟩ := restrict h' fun b => decide (b ≠ e)
    have gk : ∀ b, b ≠ e → G'.get? b = h'.get? b := fun b hb => g1 b (decide_eq_true hb)
    have ge : G'.get? e = none := g2 e (by simp)
    have old : ∀ b o, hp.get? b = some o → G'.get? b = some o := fun b o q => (gk b (Nat.ne_of_lt (Nat.lt_of_lt_of_le (Heap.lt_size q) M.new))).trans (M.keep b o q)
    have ob : ObjOk X.prog X.w (upd H1 d (.xd [(("asked" : Str), v)])) G' d (.xd [(("asked" : Str), v)]) :=
      ⟨_, hns.at (fun o q => (gk d M.dne).trans q), fun f => relO_low rv f⟩
    have J : Inv X pins σ (upd H1 d (.xd [(("asked" : Str), v)])) ⟨G', g, dr, tk', os⟩ := I1.laid (t' := tk') old M.dbig ob
    refine ⟨e, oe, fv, ⟨G', g, dr, tk', os⟩, _, .ref C, some d, rfl, J, fun b o q => ?_, ge, hoe, ⟨hc, hd⟩, hdat, h1, ?_, rfl, I1.bare, raises_own T.exC T.tyC, q1 d (I1.hok.fresh M.dbig)⟩
    · by_cases hb : b = e
      · have q' : G'.get? b = some o := q
        rw [hb, ge] at q'; cases q'
      · exact (gk b hb).symm.trans q
    · rw [upd_ne (Ne.symm M.dne)]
      exact I1.hok.fresh M.new
/-- raise Low(e) -/
def tRaiseLow (C : Addr) (W : WX) (ta : TA) : TS := fun _ σ H => tMkLow C ta σ H fun cls d H' => W cls d σ H'
theorem ps_raiseLow {a : Expr} {ta : TA} {W : WX} {p pos pos2 : Pos} {k : Nat} (hc : X.calm = true) (T : PySem.LowX.LowTxt X.K X.mg C fI) (hr : Room k X.A) (tk : Takes X W) (ha : PA X [a] ta) (hg : Gl X "NoRow" := by rfl)
    (he : starEach (a :: []) X.env = (false, eval a X.env) :: starEach [] X.env := by rfl) (hpl : (backTo pos (starEach [] X.env)).any (·.1) = false := by rfl) :
    PS X (.Raise (some (.Call (.Name "NoRow" p) [a] [] pos)) none pos2) (tRaiseLow C W ta) := ps_raise hc tk (pmk_low T hr ha hg he hpl)
/-- low.by, low the exception that the suite holds (at a; its class cls, its dict d) -/
def tByLow (C : Addr) (a : Addr) (cls : Value) (d : Option Addr) (te : TE) : TE := fun σ H Q => te σ H fun x H1 => x = .ref a ∧ cls = .ref C ∧ ∃ (dd : Addr) (v : V), d = some dd ∧ H1 dd = some (.xd [(("asked" : Str), v)]) ∧ Q v H1
theorem pe_byLow {a : Addr} {oe : Obj} {cls : Value} {d : Option Addr} {pn : List (Addr × Obj)} {e : Expr} {te : TE} {pos : Pos} (T : PySem.LowX.LowTxt X.K X.mg C fI) (hz : Zc cls d oe) (hf : ∃ vs, oe.data = .fields vs) (he : PE (X.suite a ((a, oe) :: pn)) e te)
    (hb : attributeBase e "asked" X.env (eval e X.env) = eval e X.env := by rfl) :
    PE (X.suite a ((a, oe) :: pn)) (.Attribute e "asked" pos) (tByLow C a cls d te) := by
  refine ⟨fun pins s σ H Q I h => ?_⟩
  refine attr_of hb (thn (he.run pins s σ H _ I h) fun u s1 hh => ?_)
  obtain ⟨x, H1, I1, rx, ex, ec, dd, v, ed, ea, q⟩ := hh
  subst ex
  obtain rfl : u = Value.ref a := rx
  subst ec
  subst ed
  obtain ⟨ha, _⟩ := I1.pin (a, oe) (List.mem_append_left _ List.mem_cons_self)
  obtain ⟨vs, hd⟩ := hf
  have hx : ObjOk X.prog X.w H1 s1.heap dd (.xd [(("asked" : Str), v)]) := I1.hok dd _ ea
  obtain ⟨mA, hns, hr⟩ := hx
  obtain ⟨od, ho, hl⟩ := lookIn_ns hns
  have l : List.lookup ("asked" : Str) [(("asked" : Str), v)] = some v := by simp [List.lookup]
  obtain ⟨u, hu, ru⟩ := RelO.some_of (v := v) (o := mA "asked") (by rw [← l]; exact hr "asked")
  have J : PySem.W.InstAt s1.heap a oe C (some od) := ⟨ha, hz.1, by unfold PySem.W.notCls; rw [hd] <;> rfl, by rw [hz.2]; exact ho⟩
  exact HandSPX.exc_get I1.kIn J T.ga T.gg T.exC (PySem.W.findObj_own T.hdC T.noN rfl (by rw [hl, hu])) (handed_of ru) ⟨v, H1, I1.tok _, ru, q⟩
end
end L2

namespace L2
open PySem PySem.Spec PyProof.Rows
/-- an if whose test is known -/
theorem if_true_of {c : Bool} {A B : Prop} (hc : c = true) (h : A) : if c = true then A else B := by
  rw [if_pos hc]
  exact h
theorem if_false_of {c : Bool} {A B : Prop} (hc : c = false) (h : B) : if c = true then A else B := by
  rw [hc, if_neg Bool.false_ne_true]
  exact h
end L2
set_option Elab.async false
set_option linter.all false
set_option maxRecDepth 100000
set_option maxHeartbeats 4000000
namespace Ah
open PySem PySem.Spec PyProof.Rows L2
/-! ### comprehensions that change nothing -/
def CompSt (H0 : Hp) (D : Addr) (xs : List V) (f : V → V) (i : Nat) (H : Hp) : Prop := Same H0 H ∧ H D = some (.lst ((xs.take i).map f))
theorem CompSt.start {H0 H : Hp} {D : Addr} {xs : List V} {f : V → V} (h : Same H0 H) (hD : H D = none) : CompSt H0 D xs f 0 (upd H D (.lst [])) := ⟨h.trans (same_new hD), upd_same⟩
theorem CompSt.step {H0 H : Hp} {D : Addr} {xs : List V} {f : V → V} {i : Nat} {x : V} (h : Same H0 H) (hD : H D = some (.lst ((xs.take i).map f))) (hx : xs[i]? = some x) (n0 : H0 D = none) (hl : xs.length ≤ 1000) :
    ∃ acc, H D = some (.lst acc) ∧ acc.length < sizeLine ∧ CompSt H0 D xs f (i + 1) (upd H D (.lst (acc ++ [f x]))) := by
  refine ⟨_, hD, ?_, same_mut h n0, ?_⟩
  · rw [List.length_map, List.length_take]
    exact small1000 (by omega)
  · rw [upd_same, List.take_succ, hx, List.map_append]
    rfl
theorem lc_gen {J : It} {n : Nat} {item : Nat → V} {g : TG} {tt : TT} {te : TE} {vs : List Nat} {σ : L2.St} {H1 : Hp} {D : Addr} {Qd : Hp → Prop} (Pv : Nat → Hp → Prop) (h0 : Pv 0 (upd H1 D (.lst [])))
    (hgo : ∀ i H, i < n → Pv i H → J.go i H) (hst : ∀ H, Pv n H → J.stop n H) (hy : ∀ i H x H', i < n → Pv i H → J.yld i H x H' → H' = H ∧ x = item i)
    (hs : ∀ i H, i < n → Pv i H → g (item i) (wipe σ vs) H fun σ2 H2 => wipe σ2 vs = wipe σ vs ∧ tt σ2 H2 fun b H3 =>
      if b = true then te σ2 H3 fun y H4 => ∃ acc, H4 D = some (.lst acc) ∧ acc.length < sizeLine ∧ Pv (i + 1) (upd H4 D (.lst (acc ++ [y]))) else Pv (i + 1) H3) (hd : ∀ H, Pv n H → Qd H) :
    ∃ W : Nat → Nat → Hp → Prop, (∃ m, W 0 m (upd H1 D (.lst []))) ∧ ∀ i m H, W i m H →
      (J.stop i H ∧ Qd H) ∨ (J.go i H ∧ ∃ Nx : Hp → Prop, (∀ H', Nx H' → ∃ m', m' < m ∧ W (i + 1) m' H') ∧ ∀ x H', J.yld i H x H' → g x (wipe σ vs) H' fun σ2 H2 => wipe σ2 vs = wipe σ vs ∧ tt σ2 H2 fun b H3 =>
        if b = true then te σ2 H3 fun y H4 => ∃ acc, H4 D = some (.lst acc) ∧ acc.length < sizeLine ∧ Nx (upd H4 D (.lst (acc ++ [y]))) else Nx H3) := by
  refine ⟨fun i m H => m = n - i ∧ i ≤ n ∧ Pv i H, ⟨n, rfl, Nat.zero_le _, h0⟩, ?_⟩
  rintro i m H ⟨rfl, hi, p⟩
  rcases Nat.lt_or_ge i n with hlt | hge
  · refine .inr ⟨hgo i H hlt p, Pv (i + 1), fun H' p' => ⟨n - (i + 1), by omega, rfl, hlt, p'⟩, fun x H' y => ?_⟩
    obtain ⟨rfl, rfl⟩ := hy i H x H' hlt p y
    exact hs i _ hlt p
  · obtain rfl : i = n := by omega
    exact .inl ⟨hst H p, hd H p⟩
/-! ### the program's own -/
structure Blt2 (mg : Str → Option Value) : Prop where
  isinstance : mg "isinstance" = none
  str : mg "str" = none
  list : mg "list" = none
  tuple : mg "tuple" = none
  dict : mg "dict" = none
  all : mg "all" = none
  set : mg "set" = none
  len : mg "len" = none
  enum : mg "enumerate" = none
  sorted : mg "sorted" = none
  range : mg "range" = none
  mh : ∃ t, mg "MOST_HANDS" = some (.int 8 t)
  ml : ∃ t, mg "MOST_LETTERS" = some (.int 8 t)
theorem sgn_lt (b c : Nat) : ([b] : List Nat) < [c] ↔ b < c := by
  rw [List.cons_lt_cons_iff]
  constructor
  · rintro (h | ⟨_, h⟩)
    · exact h
    · exact absurd h (List.not_lt_nil [])
  · exact .inl
theorem sgn_ok (b : Nat) : (!decide (([b] : List Nat) < [97]) && !decide (([122] : List Nat) < [b])) = decide (97 ≤ b ∧ b ≤ 122) := by
  by_cases h : 97 ≤ b ∧ b ≤ 122
  · rw [decide_eq_true h, decide_eq_false (fun q => by rw [sgn_lt] at q; omega), decide_eq_false (fun q => by rw [sgn_lt] at q; omega)]
    rfl
  · rw [decide_eq_false h]
    by_cases h2 : b < 97
    · rw [decide_eq_true ((sgn_lt b 97).mpr h2)]
      rfl
    · rw [decide_eq_true ((sgn_lt 122 b).mpr (by omega)), Bool.and_comm]
      rfl
abbrev sIsHand : Stmt := topS 6
def signOk : V → V
  | .str z => .bl (!decide (z.cps.toList < [97]) && !decide (([122] : List Nat) < z.cps.toList))
  | _ => .bl false
section
variable {P : Program} {w : World} {K : PySem.W.Frag} {mg : Str → Option Value} {base : Heap}
theorem scIsHand : FnScope ["thing", "sign"] ["thing"] (defScope sIsHand) := ⟨rfl, rfl, rfl, by decide +kernel, rfl, by decide +kernel, by decide +kernel⟩
def spIsHand : Sp := fun vs H Q _ => ∃ x : Str, vs = [.str x] ∧ x.length ≤ 1000 ∧ ∀ H', Same H H' → Q (.bl (decide (IsHand x))) H'
theorem ok_isHand {f : Addr} {fd : FuncData} (F : Fun K "is_hand" "is_hand" sIsHand f fd) (B : Blt2 mg) : FnOk P w K mg base CX0 1 f fd ["thing"] spIsHand := by
  refine F.ok scIsHand (fun vs H Q E h => ?_) (fun cdv A outer s H vs Q E hr h => ?_)
  · obtain ⟨x, rfl, _⟩ := h
    rfl
  · obtain ⟨x, rfl, hx, k⟩ := h
    have nd := scIsHand.nd
    obtain ⟨tl, hml⟩ := B.ml
    refine ⟨_, pss_cons (ps_if (PW.pt (pw_or (pt_not (pt_val (pe_callB call_isi (by rfl) B.isinstance (by decide +kernel) (pa_cons (pv 0) (pa_cons (pe_bltn (v := .ty "str") (by rfl) B.str (by decide +kernel) rfl) pa_nil)))))
          (pw_or1 (pt_not (pt_chain op_le op_le pe_int (pe_callB call_len_str (by rfl) B.len PySem.boot_len (pa_cons (pv 0) pa_nil)) (pe_glob (v := .int 8) (by rfl) hml ⟨_, rfl⟩)))))) (pss_one (ps_ret pe_bl)) pss_nil)
      (pss_one (ps_ret (pe_callB (cr_all rfl) (by rfl) B.all (by decide +kernel) (pa_cons (pe_lc (own := [("sign", 1)]) (g := gName 1) (tt := tYes) rfl nd (pi_str (pv 0)) (blkOk_by (N := ["thing", "sign"]) (sc := defScope sIsHand) (by decide +kernel))
        (fun _ _ _ _ _ => pg_name (i := 1) nd rfl (Or.inl rfl)) (fun _ _ _ _ _ => pts_nil) (fun _ _ _ _ _ => pe_chain op_le_str op_le_str pe_str (pv 1) pe_str)) pa_nil)))), ?_⟩
    refine ⟨_, rfl, .str x, .ty "str", _, _, true, rfl, .ty "str", .base (.str x), kit_ty (by decide +kernel), _, rfl, ?_⟩
    refine iteF ⟨_, rfl, x, rfl, Nat.le_trans hx (by decide), _, _, rfl, rfl, _, rfl, ?_⟩
    have no : ¬ (1 ≤ x.length ∧ x.length ≤ 8) → Q (.bl false) H := fun z => by
      have := k H (Same.refl H)
      rw [decide_eq_false (fun q => z ⟨q.1, q.2.1⟩)] at this
      exact this
    refine ite2 (fun e1 => ⟨_, _, rfl, rfl, _, rfl, ?_⟩) (fun e1 => ⟨_, rfl, iteT (no fun z => e1 (decide_eq_true (by omega)))⟩)
    have e1 := of_decide_eq_true e1
    by_cases e2 : (x.length : Int) ≤ 8
    · rw [decide_eq_true e2]
      refine iteF ⟨_, rfl, x, rfl, fun D hD => ?_⟩
      refine lc_gen (n := x.cps.size) (item := fun i => ((x.cps.toList.map fun c => V.str ⟨#[c]⟩)[i]?).getD .non) (CompSt H D (x.cps.toList.map fun c => V.str ⟨#[c]⟩) signOk) (CompSt.start (Same.refl H) hD) (fun i H' hi _ => hi) (fun H' _ => Nat.le_refl _) (fun i H' v H2 hi _ hy => ?_) (fun i H' hi p => ?_) (fun H' p => ?_)
      · obtain ⟨rfl, c, hc, rfl⟩ := hy
        refine ⟨rfl, ?_⟩
        rw [List.getElem?_map, Array.getElem?_toList, hc]
        rfl
      · obtain ⟨c, hc⟩ : ∃ c, x.cps.toList[i]? = some c := ⟨x.cps.toList[i]'(by simpa using hi), List.getElem?_eq_getElem (by simpa using hi)⟩
        have hg : (x.cps.toList.map fun c => V.str ⟨#[c]⟩)[i]? = some (V.str ⟨#[c]⟩) := by rw [List.getElem?_map, hc]; rfl
        obtain ⟨p1, p2⟩ := p
        have st := CompSt.step p1 p2 hg hD (by rw [List.length_map, Array.length_toList]; exact hx)
        rw [hg]
        refine ⟨rfl, _, rfl, _, _, rfl, rfl, _, rfl, ?_⟩
        refine ite2 (fun e3 => ⟨_, _, rfl, rfl, ?_⟩) (fun e3 => ?_)
        · have ev : signOk (V.str ⟨#[c]⟩) = V.bl (!decide (([122] : List Nat) < [c])) := by
            show V.bl (!decide (([c] : List Nat) < [97]) && !decide (([122] : List Nat) < [c])) = _
            rw [show (!decide (([c] : List Nat) < [97])) = true from e3, Bool.true_and]
          rw [ev] at st
          exact st
        · have ev : signOk (V.str ⟨#[c]⟩) = V.bl false := by
            show V.bl (!decide (([c] : List Nat) < [97]) && !decide (([122] : List Nat) < [c])) = _
            rw [show (!decide (([c] : List Nat) < [97])) = false from Bool.eq_false_iff.mpr e3, Bool.false_and]
          rw [ev] at st
          exact st
      · obtain ⟨p1, p2⟩ := p
        rw [List.take_of_length_le (by rw [List.length_map, Array.length_toList]; exact Nat.le_refl _)] at p2
        have eb : ((x.cps.toList.map fun c => V.str ⟨#[c]⟩).map signOk) = (x.cps.toList.map fun c => decide (97 ≤ c ∧ c ≤ 122)).map V.bl := by
          rw [List.map_map, List.map_map]
          refine List.map_congr_left fun c _ => ?_
          show V.bl (!decide (([c] : List Nat) < [97]) && !decide (([122] : List Nat) < [c])) = _
          rw [sgn_ok]
          rfl
        rw [eb] at p2
        refine ⟨D, _, rfl, SqL.of p2, ?_⟩
        have er : ((x.cps.toList.map fun c => decide (97 ≤ c ∧ c ≤ 122)).all id) = decide (IsHand x) := by
          rw [List.all_map]
          by_cases hh : IsHand x
          · rw [decide_eq_true hh, List.all_eq_true]
            exact fun c hc => decide_eq_true (hh.2.2 c hc)
          · rw [decide_eq_false hh, Bool.eq_false_iff]
            intro ha
            rw [List.all_eq_true] at ha
            exact hh ⟨by omega, by omega, fun c hc => of_decide_eq_true (ha c hc)⟩
        rw [er]
        exact k _ p1
    · rw [decide_eq_false e2]
      exact iteT (no fun z => e2 (by omega))
end
end Ah
set_option Elab.async false
set_option linter.all false
set_option maxRecDepth 100000
set_option maxHeartbeats 4000000
namespace Ah
open PySem PySem.Spec PyProof.Rows L2
/-! ### a list or a tuple walked -/
def iOr (a b : TI) : TI := fun σ H R => a σ H R ∨ b σ H R
theorem pi_or {X : Cx} {tg e : Expr} {a b : TI} (h1 : PI X tg e a) (h2 : PI X tg e b) : PI X tg e (iOr a b) := ⟨fun pins s σ H R I h => h.elim (h1.run pins s σ H R I) (h2.run pins s σ H R I)⟩
/-- [.. for x in xs], xs a list or a tuple that stands still -/
theorem rd_same {H H' : Hp} {a : Addr} {u : HO} (k : Same H H') (h : Rd H a u) : Rd H' a u := h.imp (k _ _) fun ⟨o, h⟩ => ⟨o, k _ _ h⟩
theorem rd_some {H : Hp} {a : Addr} {u : HO} (h : Rd H a u) : ∃ o, H a = some o := h.elim (fun h => ⟨_, h⟩) fun ⟨_, h⟩ => ⟨_, h⟩
theorem rd_eq {H H' : Hp} {a : Addr} {u : HO} (e : H' a = H a) (h : Rd H a u) : Rd H' a u := h.imp e.trans fun ⟨o, h⟩ => ⟨o, e.trans h⟩
theorem ty_tup {K : PySem.W.Frag} {H : Hp} {a : Addr} {xs : List V} (h : Rd H a (.tup xs)) : TyX K H (.ref a) (.type "tuple") := h.elim (fun h => .base (.tup h)) fun ⟨_, h⟩ => .fTuple h
/-- a tuple whose object has no dict -/
def Ftp (H : Hp) (a : Addr) (xs : List V) : Prop := ∃ o : Obj, o.dict = none ∧ H a = some (.frz o (.tup xs))
theorem Ftp.rd {H : Hp} {a : Addr} {xs : List V} (h : Ftp H a xs) : Rd H a (.tup xs) := let ⟨o, _, h⟩ := h; .inr ⟨o, h⟩
theorem Ftp.same {H H' : Hp} {a : Addr} {xs : List V} (k : Same H H') (h : Ftp H a xs) : Ftp H' a xs := let ⟨o, d, h⟩ := h; ⟨o, d, k _ _ h⟩
def LTu (H : Hp) (a : Addr) (xs : List V) : Prop := H a = some (.lst xs) ∨ Rd H a (.tup xs)
theorem LTu.same {H H' : Hp} {a : Addr} {xs : List V} (k : Same H H') (h : LTu H a xs) : LTu H' a xs := h.imp (k _ _) (rd_same k)
theorem LTu.sq {K : PySem.W.Frag} {H : Hp} {a : Addr} {xs : List V} (h : LTu H a xs) : SqL K H a xs ∨ SqT K H a xs := h.imp (fun h => SqL.of h) fun h => .inl h
theorem iOr_lc {K : PySem.W.Frag} {a : Addr} {xs : List V} {g : TG} {tt : TT} {tx te : TE} {vs : List Nat} {σ : L2.St} {H : Hp} {Q : VK} (hx : ∀ R, R (.ref a) H → tx σ H R) (hs0 : LTu H a xs) (Pv : Addr → Nat → Hp → Prop)
    (h0 : ∀ D, H D = none → Pv D 0 (upd H D (.lst []))) (hl : ∀ D i H', H D = none → i ≤ xs.length → Pv D i H' → H' a = H a)
    (hs : ∀ D i x H', H D = none → xs[i]? = some x → Pv D i H' → g x (wipe σ vs) H' fun σ2 H2 => wipe σ2 vs = wipe σ vs ∧ tt σ2 H2 fun b H3 =>
      if b = true then te σ2 H3 fun y H4 => ∃ acc, H4 D = some (.lst acc) ∧ acc.length < sizeLine ∧ Pv D (i + 1) (upd H4 D (.lst (acc ++ [y]))) else Pv D (i + 1) H3) (hd : ∀ D H', H D = none → Pv D xs.length H' → Q (.ref D) H') :
    tLc (iOr (iList K tx) (iTup K tx)) g tt te vs σ H Q := by
  rcases hs0 with h1 | h1
  · exact .inl (hx _ ⟨a, rfl, ⟨xs, SqL.of h1⟩, fun D hD => lc_list (K := K) (a := a) (xs := xs) (Pv D) (h0 D hD) (fun i H' hi p => SqL.of ((hl D i H' hD hi p).trans h1)) (fun i x H' hxi p => hs D i x H' hD hxi p) fun H' p => hd D H' hD p⟩)
  · exact .inr (hx _ ⟨a, rfl, ⟨xs, .inl h1⟩, fun D hD => lc_tup (K := K) (a := a) (xs := xs) (Pv D) (h0 D hD) (fun i H' hi p => .inl (rd_eq (hl D i H' hD hi p) h1)) (fun i x H' hxi p => hs D i x H' hD hxi p) fun H' p => hd D H' hD p⟩)
theorem LTu.some {H : Hp} {a : Addr} {xs : List V} (h : LTu H a xs) : ∃ o, H a = some o := h.elim (fun h => ⟨_, h⟩) rd_some
abbrev sAreHands : Stmt := topS 7
def handV : V → V
  | .str x => .bl (decide (IsHand x))
  | _ => .bl false
theorem handV_map (xs : List Str) : (xs.map V.str).map handV = (xs.map fun x => decide (IsHand x)).map V.bl := by
  rw [List.map_map, List.map_map]
  rfl
theorem str_at {xs : List Str} {i : Nat} {v : V} (h : (xs.map V.str)[i]? = some v) : ∃ x, xs[i]? = some x ∧ v = .str x ∧ x ∈ xs := by
  rw [List.getElem?_map] at h
  obtain ⟨x, hx, rfl⟩ := Option.map_eq_some_iff.mp h
  exact ⟨x, hx, rfl, List.mem_of_getElem? hx⟩
def AreHands (xs : List Str) : Prop := 1 ≤ xs.length ∧ xs.length ≤ 8 ∧ (∀ x ∈ xs, IsHand x) ∧ xs.Nodup
instance (xs : List Str) : Decidable (AreHands xs) := by unfold AreHands; infer_instance
section
variable {P : Program} {w : World} {K : PySem.W.Frag} {mg : Str → Option Value} {base : Heap}
theorem scAreHands : FnScope ["thing", "part"] ["thing"] (defScope sAreHands) := ⟨rfl, rfl, rfl, by decide +kernel, rfl, by decide +kernel, by decide +kernel⟩
/-- other things: nothing, a text, a number, an empty dict -/
inductive Od where
  | non | str (x : Str) | int (i : Int) | dic
def Od.isDic : Od → Bool
  | .dic => true
  | _ => false
def OdAt (H : Hp) (v : V) : Od → Prop
  | .non => v = .non
  | .str x => v = .str x
  | .int i => v = .int i
  | .dic => ∃ a, v = .ref a ∧ Rd H a (.dK [])
theorem OdAt.same {H H' : Hp} {v : V} {d : Od} (k : Same H H') (h : OdAt H v d) : OdAt H' v d := by
  cases d with
  | non => exact h
  | str x => exact h
  | int i => exact h
  | dic => exact h.imp fun _ h => ⟨h.1, rd_same k h.2⟩
theorem ty_dict {K : PySem.W.Frag} {H : Hp} {a : Addr} {kvs : List (Key × V)} (h : Rd H a (.dK kvs)) : TyX K H (.ref a) (.type "dict") := h.elim (fun h => .base (.dK h)) fun ⟨_, h⟩ => .fDict h
theorem OdAt.ty {K : PySem.W.Frag} {H : Hp} {v : V} {d : Od} (h : OdAt H v d) : ∃ ty, TyX K H v ty ∧ PySem.W.kitOne K ty (.type "list") = some false ∧ PySem.W.kitOne K ty (.type "tuple") = some false ∧ PySem.W.kitOne K ty (.type "dict") = some d.isDic := by
  cases d with
  | non =>
    cases (show v = .non from h)
    exact ⟨_, .base .non, kit_ty (by decide +kernel), kit_ty (by decide +kernel), kit_ty (by decide +kernel)⟩
  | str x =>
    cases (show v = .str x from h)
    exact ⟨_, .base (.str x), kit_ty (by decide +kernel), kit_ty (by decide +kernel), kit_ty (r := false) (by decide +kernel)⟩
  | int i =>
    cases (show v = .int i from h)
    exact ⟨_, .base (.int i), kit_ty (by decide +kernel), kit_ty (by decide +kernel), kit_ty (r := false) (by decide +kernel)⟩
  | dic =>
    obtain ⟨a, rfl, h⟩ := h
    exact ⟨_, ty_dict h, kit_ty (by decide +kernel), kit_ty (by decide +kernel), kit_ty (by decide +kernel)⟩
def spAreHands : Sp := fun vs H Q _ => ∃ v : V, vs = [v] ∧ (((∃ d, OdAt H v d) ∧ ∀ H', Same H H' → Q (.bl false) H') ∨ ∃ (a : Addr) (xs : List Str), v = .ref a ∧ LTu H a (xs.map V.str) ∧ (∀ x ∈ xs, x.length ≤ 1000) ∧ xs.length ≤ 1000 ∧ ∀ H', Same H H' → Q (.bl (decide (AreHands xs))) H')
theorem ok_areHands {f f1 : Addr} {fd fd1 : FuncData} (F : Fun K "are_hands" "are_hands" sAreHands f fd) (B : Blt2 mg) (D : Df P w K mg base CX0 "is_hand" 1 f1 fd1 ["thing"] spIsHand) : FnOk P w K mg base CX0 2 f fd ["thing"] spAreHands := by
  refine F.ok scAreHands (fun vs H Q E h => ?_) (fun cdv A outer s H vs Q E hr h => ?_)
  · obtain ⟨v, rfl, _⟩ := h
    rfl
  · obtain ⟨v, rfl, k⟩ := h
    have nd := scAreHands.nd
    obtain ⟨tl, hmh⟩ := B.mh
    refine ⟨_, pss_cons (ps_if (PW.pt (pw_or (pt_not (pt_val (pe_callB call_isiT (by rfl) B.isinstance (by decide +kernel) (pa_cons (pv 0) (pa_cons (pe_tup (pa_cons (pe_bltn (v := .ty "list") (by rfl) B.list (by decide +kernel) rfl) (pa_cons (pe_bltn (v := .ty "tuple") (by rfl) B.tuple (by decide +kernel) rfl) pa_nil))) pa_nil)))))
          (pw_or1 (pt_not (pt_chain op_le op_le pe_int (pe_callB call_len_seq (by rfl) B.len PySem.boot_len (pa_cons (pv 0) pa_nil)) (pe_glob (v := .int 8) (by rfl) hmh ⟨_, rfl⟩)))))) (pss_one (ps_ret pe_bl)) pss_nil)
      (pss_cons (ps_if (pt_not (pt_val (pe_callB (cr_all rfl) (by rfl) B.all (by decide +kernel) (pa_cons (pe_lc (own := [("part", 1)]) (g := gName 1) (tt := tYes) rfl nd (pi_or (pi_list (pv 0)) (pi_tup (pv 0))) (blkOk_by (N := ["thing", "part"]) (sc := defScope sAreHands) (by decide +kernel))
        (fun _ _ _ _ _ => pg_name (i := 1) nd rfl (Or.inl rfl)) (fun _ _ _ _ _ => pts_nil) (fun _ _ _ _ _ => pe_call D.ok hr rfl D.g D.kp D.b .nil pass0 (pa_cons (pv 1) pa_nil))) pa_nil)))) (pss_one (ps_ret pe_bl)) pss_nil)
      (pss_one (ps_ret (pe_cmpR op_eq (pe_callB cr_lenSetT (by rfl) B.len PySem.boot_len (pa_cons (pe_callTy (cr_setTx rfl) (by rfl) B.set (by decide +kernel) (pa_cons (pv 0) pa_nil)) pa_nil)) (pe_callB call_len_seq (by rfl) B.len PySem.boot_len (pa_cons (pv 0) pa_nil)) (nomark _))))), ?_⟩
    rcases k with ⟨⟨d, hod⟩, k⟩ | ⟨a, xs, rfl, ha, hlen, hl, k⟩
    · refine ⟨_, rfl, by decide, fun t ht => ?_⟩
      obtain ⟨ty, hty, y1, y2, _⟩ := (hod.same (same_new (o := .tup [.ty "list", .ty "tuple"]) ht)).ty (K := K)
      refine ⟨v, t, [.ty "list", .ty "tuple"], _, _, false, rfl, upd_same, .cons (.ty _) (.cons (.ty _) .nil), hty, kitAny_cons (b := false) y1 (fun _ => kitAny_cons (b := false) y2 (fun _ => kitAny_nil) nofun) nofun, _, rfl, ?_⟩
      exact iteT (k _ (same_new ht))
    · refine ⟨_, rfl, by decide, fun t ht => ?_⟩
      have s1 : Same H (upd H t (.tup [.ty "list", .ty "tuple"])) := same_new ht
      have htt : (upd H t (.tup [.ty "list", .ty "tuple"])) t = some (.tup [.ty "list", .ty "tuple"]) := upd_same
      show ∃ _, _
      generalize upd H t (.tup [.ty "list", .ty "tuple"]) = H1 at s1 htt ⊢
      have ha1 := ha.same s1
      have isi : ∃ ty, TyX K H1 (.ref a) ty ∧ PySem.W.kitAny K ty [.type "list", .type "tuple"] = some true := by
        rcases ha1 with h | h
        · exact ⟨_, .base (.lst h), kitAny_cons (b := true) (kit_ty (by decide +kernel)) nofun fun _ => rfl⟩
        · exact ⟨_, ty_tup h, kitAny_cons (b := false) (kit_ty (by decide +kernel)) (fun _ => kitAny_cons (b := true) (kit_ty (by decide +kernel)) nofun fun _ => rfl) nofun⟩
      obtain ⟨ty, hty, hkit⟩ := isi
      refine ⟨.ref a, t, [.ty "list", .ty "tuple"], _, _, true, rfl, htt, .cons (.ty _) (.cons (.ty _) .nil), hty, hkit, _, rfl, ?_⟩
      refine iteF ⟨_, rfl, a, _, rfl, ha1.sq, _, _, rfl, rfl, _, rfl, ?_⟩
      rw [List.length_map]
      have no : ¬ (1 ≤ xs.length ∧ xs.length ≤ 8) → Q (.bl false) H1 := fun z => by
        have := k H1 s1
        rw [decide_eq_false (fun q => z ⟨q.1, q.2.1⟩)] at this
        exact this
      refine ite2 (fun e1 => ⟨_, _, rfl, rfl, _, rfl, ?_⟩) (fun e1 => ⟨_, rfl, iteT (no fun z => e1 (decide_eq_true (by omega)))⟩)
      have e1 := of_decide_eq_true e1
      by_cases e2 : (xs.length : Int) ≤ 8
      · rw [decide_eq_true e2]
        refine iteF ?_
        obtain ⟨oa, hoa⟩ := ha1.some
        dsimp only [tNext, tSeq, tIfS, tNot, tB, tCB, tCons]
        refine iOr_lc (a := a) (xs := xs.map V.str) (fun R h => ⟨_, rfl, h⟩) ha1 (fun D0 => CompSt H1 D0 (xs.map V.str) handV) (fun D0 hD => CompSt.start (Same.refl _) hD) (fun D0 i H' hD _ p => by rw [p.1 _ _ hoa, hoa]) ?_ ?_
        · rintro D0 i v H' hD hv ⟨p1, p2⟩
          obtain ⟨x, hx, rfl, hm⟩ := str_at hv
          exact ⟨rfl, _, rfl, x, rfl, hlen x hm, fun H2 s2 => CompSt.step (p1.trans s2) (s2 _ _ p2) hv hD (by rw [List.length_map]; exact hl)⟩
        · rintro D0 H' hD ⟨p1, p2⟩
          rw [List.take_length, handV_map] at p2
          refine ⟨D0, _, rfl, SqL.of p2, _, rfl, ?_⟩
          have s2 := s1.trans p1
          by_cases hall : ∀ x ∈ xs, IsHand x
          · have eb : ((xs.map fun x => decide (IsHand x)).all id) = true := by
              rw [List.all_map, List.all_eq_true]
              exact fun x hx => decide_eq_true (hall x hx)
            rw [eb]
            refine iteF ?_
            have sq1 := (ha1.same p1).sq (K := K)
            refine ⟨_, rfl, a, xs, rfl, sq1, Nat.lt_of_le_of_lt (Nat.succ_le_succ hl) (by decide), fun p hp => ?_⟩
            have s3 : Same H' (upd H' p (SetT P w p xs)) := same_new hp
            have sq2 := ((ha1.same p1).same s3).sq (K := K)
            refine ⟨p, xs, rfl, upd_same, by omega, _, rfl, a, _, rfl, sq2, rfl, ?_⟩
            have q := k _ (s2.trans s3)
            have ev : decide (V.int ((fmt xs xs.length).length : Nat) = V.int ((xs.map V.str).length : Nat)) = decide (AreHands xs) := by
              rw [List.length_map]
              by_cases hn : xs.Nodup
              · rw [decide_eq_true (show AreHands xs from ⟨by omega, by omega, hall, hn⟩), (fmt_eq).mpr hn, decide_eq_true rfl]
              · rw [decide_eq_false (show ¬ AreHands xs from fun z => hn z.2.2.2), decide_eq_false]
                intro z
                exact hn (fmt_eq.mp (by have := V.int.inj z; omega))
            show Q (.bl (decide (V.int ((fmt xs xs.length).length : Nat) = V.int ((xs.map V.str).length : Nat)))) _
            rw [ev]
            exact q
          · have eb : ((xs.map fun x => decide (IsHand x)).all id) = false := by
              rw [Bool.eq_false_iff]
              intro z
              rw [List.all_map, List.all_eq_true] at z
              exact hall fun x hx => of_decide_eq_true (z x hx)
            rw [eb]
            refine iteT ?_
            have q := k _ s2
            rw [decide_eq_false (show ¬ AreHands xs from fun z => hall z.2.2.1)] at q
            exact q
      · rw [decide_eq_false e2]
        exact iteT (no fun z => e2 (by omega))
end
end Ah
set_option Elab.async false
set_option linter.all false
set_option maxRecDepth 100000
set_option maxHeartbeats 4000000
namespace Ah
open PySem PySem.Spec PyProof.Rows L2
/-! ### things that are handed in: nothing, a list of texts, a tuple of texts -/
inductive Th where
  | oth (d : Od) | lst (xs : List Str) | tup (xs : List Str)
abbrev Th.non : Th := .oth .non
def ThAt (H : Hp) (v : V) : Th → Prop
  | .oth d => OdAt H v d
  | .lst xs => ∃ a, v = .ref a ∧ H a = some (.lst (xs.map V.str))
  | .tup xs => ∃ a, v = .ref a ∧ Rd H a (.tup (xs.map V.str))
def Th.names : Th → List Str
  | .oth _ => []
  | .lst xs => xs
  | .tup xs => xs
def Th.fit (d : Th) : Prop := d.names.length ≤ 1000 ∧ ∀ x ∈ d.names, x.length ≤ 1000
theorem ThAt.same {H H' : Hp} {v : V} {d : Th} (k : Same H H') (h : ThAt H v d) : ThAt H' v d := by
  cases d with
  | oth o => exact OdAt.same k h
  | lst xs => exact h.imp fun _ h => ⟨h.1, k _ _ h.2⟩
  | tup xs => exact h.imp fun _ h => ⟨h.1, rd_same k h.2⟩
def Th.isHands : Th → Prop
  | .oth _ => False
  | .lst xs => AreHands xs
  | .tup xs => AreHands xs
def IsRow (hs : List Str) : Th → Prop
  | .tup xs => xs.length = hs.length ∧ ∀ h ∈ hs, h ∈ xs
  | _ => False
instance (d : Th) : Decidable d.isHands := by cases d <;> (unfold Th.isHands; infer_instance)
instance (hs : List Str) (d : Th) : Decidable (IsRow hs d) := by cases d <;> (unfold IsRow; infer_instance)
abbrev sIsRow : Stmt := topS 9
def inRow (xs : List Str) : V → V
  | .str x => .bl (decide (x ∈ xs))
  | _ => .bl false
theorem inV_strs (x : Str) (xs : List Str) : inV (.str x) (xs.map V.str) = decide (x ∈ xs) := by
  unfold inV
  induction xs with
  | nil => rfl
  | cons y r ih =>
    rw [List.map_cons, List.any_cons, ih]
    by_cases h : y = x
    · subst h
      have : eqV (V.str y) (V.str y) = true := by simp [eqV]
      rw [this]
      simp
    · have : eqV (V.str y) (V.str x) = false := by simp [eqV, h]
      rw [this, Bool.false_or]
      have h' : ¬ x = y := fun e => h e.symm
      simp [List.mem_cons, h']
section
variable {P : Program} {w : World} {K : PySem.W.Frag} {mg : Str → Option Value} {base : Heap}
theorem scIsRow : FnScope ["hands", "thing", "hand"] ["hands", "thing"] (defScope sIsRow) := ⟨rfl, rfl, rfl, by decide +kernel, rfl, by decide +kernel, by decide +kernel⟩
def spIsRow : Sp := fun vs H Q _ => ∃ (h : Addr) (v : V) (hs : List Str) (d : Th), vs = [.ref h, v] ∧ LTu H h (hs.map V.str) ∧ hs.length ≤ 1000 ∧ ThAt H v d ∧ d.fit ∧ ∀ H', Same H H' → Q (.bl (decide (IsRow hs d))) H'
theorem ok_isRow {f : Addr} {fd : FuncData} (F : Fun K "is_row" "is_row" sIsRow f fd) (B : Blt2 mg) : FnOk P w K mg base CX0 1 f fd ["hands", "thing"] spIsRow := by
  refine F.ok scIsRow (fun vs H Q E h => ?_) (fun cdv A outer s H vs Q E hr h => ?_)
  · obtain ⟨h, v, hs, d, rfl, _⟩ := h
    rfl
  · obtain ⟨h, v, hs, d, rfl, hh, hl, hv, fit, k⟩ := h
    have nd := scIsRow.nd
    refine ⟨_, pss_cons (ps_if (PW.pt (pw_or (pt_not (pt_val (pe_callB call_isi (by rfl) B.isinstance (by decide +kernel) (pa_cons (pv 1) (pa_cons (pe_bltn (v := .ty "tuple") (by rfl) B.tuple (by decide +kernel) rfl) pa_nil)))))
          (pw_or1 (pt_cmpR op_ne (pe_callB call_len_seq (by rfl) B.len PySem.boot_len (pa_cons (pv 1) pa_nil)) (pe_callB call_len_seq (by rfl) B.len PySem.boot_len (pa_cons (pv 0) pa_nil)) (nomark _))))) (pss_one (ps_ret pe_bl)) pss_nil)
      (pss_one (ps_ret (pe_callB (cr_all rfl) (by rfl) B.all (by decide +kernel) (pa_cons (pe_lc (own := [("hand", 2)]) (g := gName 2) (tt := tYes) rfl nd (pi_or (pi_list (pv 0)) (pi_tup (pv 0))) (blkOk_by (N := ["hands", "thing", "hand"]) (sc := defScope sIsRow) (by decide +kernel))
        (fun _ _ _ _ _ => pg_name (i := 2) nd rfl (Or.inl rfl)) (fun _ _ _ _ _ => pts_nil) (fun _ _ _ _ _ => pe_cmpR (r := rIn K false) op_in_seq (pv 2) (pv 1) (by rfl))) pa_nil)))), ?_⟩
    have q0 : ¬ IsRow hs d → Q (.bl false) H := fun z => by
      have := k H (Same.refl H)
      rw [decide_eq_false z] at this
      exact this
    cases d with
    | oth o =>
      obtain ⟨ty, hty, _, y2, _⟩ := OdAt.ty (K := K) (show OdAt H v o from hv)
      exact ⟨_, rfl, v, .ty "tuple", _, _, false, rfl, .ty "tuple", hty, y2, _, rfl, iteT (q0 fun z => z)⟩
    | lst xs =>
      obtain ⟨a, rfl, ha⟩ := hv
      exact ⟨_, rfl, .ref a, .ty "tuple", _, _, false, rfl, .ty "tuple", .base (.lst ha), kit_ty (by decide +kernel), _, rfl, iteT (q0 fun z => z)⟩
    | tup xs =>
      obtain ⟨a, rfl, ha⟩ := hv
      refine ⟨_, rfl, .ref a, .ty "tuple", _, _, true, rfl, .ty "tuple", ty_tup ha, kit_ty (by decide +kernel), _, rfl, ?_⟩
      refine iteF ⟨_, rfl, a, _, rfl, .inr (.inl ha), _, rfl, h, _, rfl, hh.sq, rfl, _, rfl, ?_⟩
      rw [List.length_map, List.length_map]
      by_cases e1 : xs.length = hs.length
      · rw [e1]
        refine iteNS rfl ?_
        obtain ⟨oh, hoh⟩ := hh.some
        dsimp only [tNext, tSeq, tIfS, tNot, tB, tCB, tCons, tRet]
        refine iOr_lc (a := h) (xs := hs.map V.str) (fun R h => ⟨_, rfl, h⟩) hh (fun D0 => CompSt H D0 (hs.map V.str) (inRow xs)) (fun D0 hD => CompSt.start (Same.refl _) hD) (fun D0 i H' hD _ p => by rw [p.1 _ _ hoh, hoh]) ?_ ?_
        · rintro D0 i v H' hD hv ⟨p1, p2⟩
          obtain ⟨x, hx, rfl, hm⟩ := str_at hv
          refine ⟨rfl, _, rfl, _, rfl, a, _, rfl, .inr (.inl (rd_same p1 ha)), rfl, flat_strs xs, ?_⟩
          have st := CompSt.step (f := inRow xs) p1 p2 hv hD (by rw [List.length_map]; exact hl)
          have ev : (if false = true then !inV (V.str x) (xs.map V.str) else inV (V.str x) (xs.map V.str)) = decide (x ∈ xs) := by
            rw [if_neg Bool.false_ne_true, inV_strs]
          show ∃ acc, _
          rw [ev]
          exact st
        · rintro D0 H' hD ⟨p1, p2⟩
          have em : (hs.map V.str).map (inRow xs) = (hs.map fun x => decide (x ∈ xs)).map V.bl := by
            rw [List.map_map, List.map_map]
            rfl
          rw [List.take_length, em] at p2
          refine ⟨D0, _, rfl, SqL.of p2, ?_⟩
          have ea : ((hs.map fun x => decide (x ∈ xs)).all id) = decide (IsRow hs (.tup xs)) := by
            rw [List.all_map]
            by_cases hall : ∀ x ∈ hs, x ∈ xs
            · rw [decide_eq_true (show IsRow hs (.tup xs) from ⟨e1, hall⟩), List.all_eq_true]
              exact fun x hx => decide_eq_true (hall x hx)
            · rw [decide_eq_false (show ¬ IsRow hs (.tup xs) from fun z => hall z.2), Bool.eq_false_iff]
              intro z
              rw [List.all_eq_true] at z
              exact hall fun x hx => of_decide_eq_true (z x hx)
          rw [ea]
          exact k _ p1
      · rw [show decide (V.int (xs.length : Nat) = V.int (hs.length : Nat)) = false from decide_eq_false fun z => e1 (by have := V.int.inj z; omega)]
        exact iteT (q0 fun z => e1 z.1)
end
end Ah
set_option Elab.async false
set_option linter.all false
set_option maxRecDepth 100000
set_option maxHeartbeats 4000000
namespace Ah
open PySem PySem.Spec PyProof.Rows L2
abbrev sCopied : Stmt := topS 5
abbrev sCheckRow : Stmt := topS 10
abbrev sCheck : Stmt := topS 11
/-- a text, nothing, a number, a truth -/
def Leaf (v : V) : Prop := v = .non ∨ (∃ x, v = .str x) ∨ (∃ i, v = .int i) ∨ ∃ b, v = .bl b
theorem Leaf.no {K : PySem.W.Frag} {H : Hp} {v : V} (h : Leaf v) : ∃ t, TyX K H v t ∧ PySem.W.kitOne K t (.type "list") = some false ∧ PySem.W.kitOne K t (.type "tuple") = some false ∧ PySem.W.kitOne K t (.type "dict") = some false := by
  rcases h with rfl | ⟨x, rfl⟩ | ⟨i, rfl⟩ | ⟨b, rfl⟩
  · exact ⟨_, .base .non, kit_ty (by decide +kernel), kit_ty (by decide +kernel), kit_ty (by decide +kernel)⟩
  · exact ⟨_, .base (.str x), kit_ty (by decide +kernel), kit_ty (by decide +kernel), kit_ty (by decide +kernel)⟩
  · exact ⟨_, .base (.int i), kit_ty (by decide +kernel), kit_ty (by decide +kernel), kit_ty (by decide +kernel)⟩
  · exact ⟨_, .base (.bl b), kit_ty (by decide +kernel), kit_ty (by decide +kernel), kit_ty (by decide +kernel)⟩
section
variable {P : Program} {w : World} {K : PySem.W.Frag} {mg : Str → Option Value} {base : Heap}
theorem scCopied : FnScope ["thing", "part", "key"] ["thing"] (defScope sCopied) := ⟨rfl, rfl, rfl, by decide +kernel, rfl, by decide +kernel, by decide +kernel⟩
def spCopied0 : Sp := fun vs H Q _ => ∃ v : V, vs = [v] ∧ Leaf v ∧ ∀ H', Same H H' → Q v H'
theorem ok_copied0 {f : Addr} {fd : FuncData} (F : Fun K "copied" "copied" sCopied f fd) (B : Blt2 mg) : FnOk P w K mg base CX0 1 f fd ["thing"] spCopied0 := by
  refine F.ok scCopied (fun vs H Q E h => ?_) (fun cdv A outer s H vs Q E hr h => ?_)
  · obtain ⟨v, rfl, _⟩ := h
    rfl
  · obtain ⟨v, rfl, lf, k⟩ := h
    refine ⟨_, pss_cons (ps_if (pt_val (pe_callB call_isi (by rfl) B.isinstance (by decide +kernel) (pa_cons (pv 0) (pa_cons (pe_bltn (v := .ty "list") (by rfl) B.list (by decide +kernel) rfl) pa_nil)))) pss_never pss_nil)
      (pss_cons (ps_if (pt_val (pe_callB call_isi (by rfl) B.isinstance (by decide +kernel) (pa_cons (pv 0) (pa_cons (pe_bltn (v := .ty "tuple") (by rfl) B.tuple (by decide +kernel) rfl) pa_nil)))) pss_never pss_nil)
      (pss_cons (ps_if (pt_val (pe_callB call_isi (by rfl) B.isinstance (by decide +kernel) (pa_cons (pv 0) (pa_cons (pe_bltn (v := .ty "dict") (by rfl) B.dict (by decide +kernel) rfl) pa_nil)))) pss_never pss_nil)
      (pss_one (ps_ret (pv 0))))), ?_⟩
    obtain ⟨t, ty, n1, n2, n3⟩ := lf.no (K := K) (H := H)
    exact ⟨_, rfl, v, _, _, _, false, rfl, .ty "list", ty, n1, _, rfl, iteF ⟨_, rfl, v, _, _, _, false, rfl, .ty "tuple", ty, n2, _, rfl, iteF ⟨_, rfl, v, _, _, _, false, rfl, .ty "dict", ty, n3, _, rfl, iteF ⟨_, rfl, k H (Same.refl H)⟩⟩⟩⟩
def FrzD (H : Hp) (v : V) : Th → Prop
  | .oth .dic => ∃ a o, v = .ref a ∧ H a = some (.frz o (.dK []))
  | _ => True
theorem FrzD.same {H H' : Hp} {v : V} {d : Th} (k : Same H H') (h : FrzD H v d) : FrzD H' v d := by
  cases d with
  | oth o =>
    cases o with
    | dic => obtain ⟨a, o, e, h⟩ := h; exact ⟨a, o, e, k _ _ h⟩
    | _ => trivial
  | _ => trivial
def spCopied1 : Sp := fun vs H Q _ => ∃ (v : V) (d : Th), vs = [v] ∧ ThAt H v d ∧ d.fit ∧ FrzD H v d ∧ ∀ v' H', Same H H' → ThAt H' v' d → Q v' H'
theorem ok_copied1 {f : Addr} {fd : FuncData} (F : Fun K "copied" "copied" sCopied f fd) (B : Blt2 mg) (D : Df P w K mg base CX0 "copied" 1 f fd ["thing"] spCopied0) : FnOk P w K mg base CX0 2 f fd ["thing"] spCopied1 := by
  refine F.ok scCopied (fun vs H Q E h => ?_) (fun cdv A outer s H vs Q E hr h => ?_)
  · obtain ⟨v, d, rfl, _⟩ := h
    rfl
  · obtain ⟨v, d, rfl, hv, fit, hfz, k⟩ := h
    have nd := scCopied.nd
    have hu := hu_of hr
    refine ⟨_, pss_cons (ps_if (pt_val (pe_callB call_isi (by rfl) B.isinstance (by decide +kernel) (pa_cons (pv 0) (pa_cons (pe_bltn (v := .ty "list") (by rfl) B.list (by decide +kernel) rfl) pa_nil))))
          (pss_one (ps_ret (pe_lc (own := [("part", 1)]) (g := gName 1) (tt := tYes) rfl nd (pi_list (pv 0)) (blkOk_by (N := ["thing", "part", "key"]) (sc := defScope sCopied) (by decide +kernel)) (fun _ _ _ _ _ => pg_name (i := 1) nd rfl (Or.inl rfl)) (fun _ _ _ _ _ => pts_nil)
            (fun _ _ _ _ _ => pe_call D.ok hr rfl D.g D.kp D.b .nil pass0 (pa_cons (pv 1) pa_nil))))) pss_nil)
      (pss_cons (ps_if (pt_val (pe_callB call_isi (by rfl) B.isinstance (by decide +kernel) (pa_cons (pv 0) (pa_cons (pe_bltn (v := .ty "tuple") (by rfl) B.tuple (by decide +kernel) rfl) pa_nil))))
          (pss_one (ps_ret (pe_callTy call_tuple_of (by rfl) B.tuple (by decide +kernel) (pa_cons (pe_lc (own := [("part", 1)]) (g := gName 1) (tt := tYes) rfl nd (pi_tup (pv 0)) (blkOk_by (N := ["thing", "part", "key"]) (sc := defScope sCopied) (by decide +kernel)) (fun _ _ _ _ _ => pg_name (i := 1) nd rfl (Or.inl rfl)) (fun _ _ _ _ _ => pts_nil)
            (fun _ _ _ _ _ => pe_call D.ok hr rfl D.g D.kp D.b .nil pass0 (pa_cons (pv 1) pa_nil))) pa_nil)))) pss_nil)
      (pss_cons (ps_if (pt_val (pe_callB call_isi (by rfl) B.isinstance (by decide +kernel) (pa_cons (pv 0) (pa_cons (pe_bltn (v := .ty "dict") (by rfl) B.dict (by decide +kernel) rfl) pa_nil))))
          (pss_one (ps_ret (pe_dc (own := [("key", 2)]) (g := gName 2) (tt := tYes) rfl nd (pi_keys (pv 0)) (blkOk_by (N := ["thing", "part", "key"]) (sc := defScope sCopied) (by decide +kernel)) (fun _ _ _ _ _ => pg_name (i := 2) nd rfl (Or.inl rfl)) (fun _ _ _ _ _ => pts_nil) (fun _ _ _ _ _ => pv 2)
            (fun _ _ _ _ _ => pe_call D.ok hr rfl D.g D.kp D.b .nil pass0 (pa_cons (pe_dget hu (pv 0) (pv 2) (fun _ _ => rfl)) pa_nil))))) pss_nil)
      (pss_one (ps_ret (pv 0))))), ?_⟩
    have turn : ∀ (xs : List Str) (D0 : Addr) (i : Nat) (v : V) (H' : Hp), xs.length ≤ 1000 → H D0 = none → (xs.map V.str)[i]? = some v → CompSt H D0 (xs.map V.str) (fun v => v) i H' → ∃ x, v = V.str x ∧ ∀ H2, Same H' H2 → ∃ acc, H2 D0 = some (.lst acc) ∧ acc.length < sizeLine ∧ CompSt H D0 (xs.map V.str) (fun v => v) (i + 1) (upd H2 D0 (.lst (acc ++ [v]))) := by
      rintro xs D0 i v H' hl hD hv ⟨p1, p2⟩
      obtain ⟨x, hx, rfl, hm⟩ := str_at hv
      exact ⟨x, rfl, fun H2 s2 => CompSt.step (f := fun v => v) (p1.trans s2) (s2 _ _ p2) hv hD (by rw [List.length_map]; exact hl)⟩
    cases d with
    | oth o =>
      obtain ⟨ty, hty, y1, y2, y3⟩ := OdAt.ty (K := K) (show OdAt H v o from hv)
      refine ⟨_, rfl, v, _, _, _, false, rfl, .ty "list", hty, y1, _, rfl, iteF ⟨_, rfl, v, _, _, _, false, rfl, .ty "tuple", hty, y2, _, rfl, iteF ⟨_, rfl, v, _, _, _, _, rfl, .ty "dict", hty, y3, _, rfl, ?_⟩⟩⟩
      cases o with
      | non => exact iteF ⟨_, rfl, k _ H (Same.refl H) hv⟩
      | str x => exact iteF ⟨_, rfl, k _ H (Same.refl H) hv⟩
      | int i => exact iteF ⟨_, rfl, k _ H (Same.refl H) hv⟩
      | dic =>
        obtain ⟨a, o, rfl, hf⟩ := hfz
        refine iteT ⟨_, rfl, a, o, rfl, .inl ⟨[], hf, fun D0 hD => ?_⟩⟩
        refine ⟨fun i m H' => i = 0 ∧ H' = upd H D0 (.dK []), ⟨0, rfl, rfl⟩, ?_⟩
        rintro i m H' ⟨rfl, rfl⟩
        exact .inl ⟨⟨(same_new hD) _ _ hf, Nat.le_refl _⟩, k _ _ (same_new hD) ⟨D0, rfl, .inl upd_same⟩⟩
    | lst xs =>
      obtain ⟨a, rfl, ha⟩ := hv
      refine ⟨_, rfl, .ref a, _, _, _, true, rfl, .ty "list", .base (.lst ha), kit_ty (by decide +kernel), _, rfl, iteT ⟨_, rfl, a, rfl, ⟨_, SqL.of ha⟩, fun D0 hD => ?_⟩⟩
      refine lc_list (K := K) (a := a) (xs := xs.map V.str) (CompSt H D0 (xs.map V.str) fun v => v) (CompSt.start (Same.refl _) hD) (fun i H' _ p => SqL.of (p.1 _ _ ha)) (fun i v H' hv p => ?_) (fun H' p => ?_)
      · obtain ⟨x, rfl, h2⟩ := turn xs D0 i v H' fit.1 hD hv p
        exact ⟨rfl, _, rfl, .str x, rfl, .inr (.inl ⟨x, rfl⟩), h2⟩
      · obtain ⟨p1, p2⟩ := p
        rw [List.take_length, List.map_id'] at p2
        exact k _ H' p1 ⟨D0, rfl, p2⟩
    | tup xs =>
      obtain ⟨a, rfl, ha⟩ := hv
      refine ⟨_, rfl, .ref a, _, _, _, false, rfl, .ty "list", ty_tup ha, kit_ty (by decide +kernel), _, rfl, iteF ⟨_, rfl, .ref a, _, _, _, true, rfl, .ty "tuple", ty_tup ha, kit_ty (by decide +kernel), _, rfl, iteT ⟨_, rfl, a, rfl, ⟨_, .inl ha⟩, fun D0 hD => ?_⟩⟩⟩
      refine lc_tup (K := K) (a := a) (xs := xs.map V.str) (CompSt H D0 (xs.map V.str) fun v => v) (CompSt.start (Same.refl _) hD) (fun i H' _ p => .inl (rd_same p.1 ha)) (fun i v H' hv p => ?_) (fun H' p => ?_)
      · obtain ⟨x, rfl, h2⟩ := turn xs D0 i v H' fit.1 hD hv p
        exact ⟨rfl, _, rfl, .str x, rfl, .inr (.inl ⟨x, rfl⟩), h2⟩
      · obtain ⟨p1, p2⟩ := p
        rw [List.take_length, List.map_id'] at p2
        exact ⟨D0, _, rfl, .inl ⟨SqL.of p2, fun l hl => k _ _ (p1.trans (same_new hl)) ⟨l, rfl, .inl upd_same⟩⟩⟩
/-! ### check_row -/
theorem scCheckRow : FnScope ["hands", "row"] ["hands", "row"] (defScope sCheckRow) := ⟨rfl, rfl, rfl, by decide +kernel, rfl, by decide +kernel, by decide +kernel⟩
def spCheckRow (C : Addr) : Sp := fun vs H Q E => ∃ (g : Addr) (v : V) (hs : List Str) (d : Th), vs = [.ref g, v] ∧ LTu H g (hs.map V.str) ∧ hs.length ≤ 1000 ∧ ThAt H v d ∧ d.fit ∧ FrzD H v d ∧ (IsRow hs d → ∀ H', Same H H' → Q .non H') ∧
  (¬ IsRow hs d → ∀ (x : Addr) (u : V) (H' : Hp), Same H H' → H x = none → H' x = some (.xd [("asked", u)]) → ThAt H' u d → E (.ref C) (some x) H')
theorem ok_checkRow {f C fI f2 f3 : Addr} {fd fd2 fd3 : FuncData} (F : Fun K "check_row" "check_row" sCheckRow f fd) (T : PySem.LowX.LowTxt K mg C fI) (D2 : Df P w K mg base CX0 "copied" 2 f2 fd2 ["thing"] spCopied1) (D3 : Df P w K mg base CX0 "is_row" 1 f3 fd3 ["hands", "thing"] spIsRow) :
    FnOk P w K mg base (L2.CX P w) 3 f fd ["hands", "row"] (spCheckRow C) := by
  refine F.okX scCheckRow (fun vs H Q E h => ?_) (fun cdv A outer s H vs Q E hr h => ?_)
  · obtain ⟨g, v, hs, d, rfl, _⟩ := h
    rfl
  · obtain ⟨g, v, hs, d, rfl, hg, lg, hv, hf, hz, kN, kS⟩ := h
    have nd := scCheckRow.nd
    have hr1 : Room 1 _ := hr.mono (by decide)
    refine ⟨_, pss_one (ps_if (pt_not (pt_val (pe_call D3.ok hr1 rfl D3.g D3.kp D3.b .nil pass0 (pa_cons (pv 0) (pa_cons (pv 1) pa_nil))))) (pss_one (ps_raiseLow rfl T hr (takes_of rfl rfl rfl rfl) (by exact (pa_cons (pe_call D2.ok hr rfl D2.g D2.kp D2.b .nil pass0 (pa_cons (pv 1) pa_nil)) pa_nil)))) pss_nil), ?_⟩
    refine ⟨_, rfl, v, rfl, ⟨g, v, hs, d, rfl, hg, lg, hv, hf, fun H1 s1 => ⟨_, rfl, ?_⟩⟩⟩
    by_cases hi : IsRow hs d
    · exact iteNS hi (kN hi H1 s1)
    · rw [decide_eq_false hi]
      refine iteT ⟨v, rfl, ⟨v, d, rfl, hv.same s1, hf, hz.same s1, fun u H2 s2 t2 => ⟨u, rfl, fun x hx => ?_⟩⟩⟩
      exact kS hi x u _ (s1.trans (s2.trans (same_new hx))) (by
        cases e : H x with
        | none => rfl
        | some o => rw [s1.trans s2 x o e] at hx; cases hx) upd_same (t2.same (same_new hx))
/-! ### check_rows -/
/-- the first that is refused -/
def dueRows : List Th → Option Th
  | [] => none
  | d :: ds => if d.isHands then (d :: ds).find? fun e => !decide (IsRow d.names e) else some d
theorem scCheck : FnScope ["rows", "first", "row"] ["rows"] (defScope sCheck) := ⟨rfl, rfl, rfl, by decide +kernel, rfl, by decide +kernel, by decide +kernel⟩
def ThsAt (H : Hp) : List V → List Th → Prop
  | [], [] => True
  | v :: vs, d :: ds => ThAt H v d ∧ (d.fit ∧ FrzD H v d) ∧ ThsAt H vs ds
  | _, _ => False
theorem ThsAt.len {H : Hp} : ∀ {vs : List V} {ds : List Th}, ThsAt H vs ds → vs.length = ds.length
  | [], [], _ => rfl
  | v :: vs, d :: ds, h => by rw [List.length_cons, List.length_cons, ThsAt.len h.2.2]
theorem ThsAt.at {H : Hp} : ∀ {vs : List V} {ds : List Th} {i : Nat} {v : V}, ThsAt H vs ds → vs[i]? = some v → ∃ d, ds[i]? = some d ∧ ThAt H v d ∧ d.fit ∧ FrzD H v d
  | v :: vs, d :: ds, 0, u, h, e => by
    obtain rfl : v = u := Option.some.inj e
    exact ⟨d, rfl, h.1, h.2.1.1, h.2.1.2⟩
  | v :: vs, d :: ds, i + 1, u, h, e => ThsAt.at h.2.2 (i := i) (by simpa using e)
theorem hands_of {H : Hp} {v : V} {d : Th} {Q : VK} {E : XK} (h : ThAt H v d) (hf : d.fit) (k : ∀ H', Same H H' → Q (.bl (decide d.isHands)) H') : spAreHands [v] H Q E := by
  cases d with
  | oth o => exact ⟨v, rfl, .inl ⟨⟨o, h⟩, fun H' s => by have := k H' s; rwa [decide_eq_false (show ¬ Th.isHands (.oth o) from fun z => z)] at this⟩⟩
  | lst xs =>
    obtain ⟨a, rfl, ha⟩ := h
    exact ⟨_, rfl, .inr ⟨a, xs, rfl, .inl ha, hf.2, hf.1, k⟩⟩
  | tup xs =>
    obtain ⟨a, rfl, ha⟩ := h
    exact ⟨_, rfl, .inr ⟨a, xs, rfl, .inr ha, hf.2, hf.1, k⟩⟩
theorem find_none {p : Th → Bool} {ds : List Th} (h : ∀ (i : Nat) (d : Th), ds[i]? = some d → p d = false) : ds.find? p = none := by
  rw [List.find?_eq_none]
  intro d hd z
  obtain ⟨i, hi⟩ := List.mem_iff_getElem?.mp hd
  rw [h i d hi] at z
  cases z
theorem find_at {p : Th → Bool} : ∀ {ds : List Th} {i : Nat} {d : Th}, ds[i]? = some d → p d = true → (∀ (j : Nat) (e : Th), j < i → ds[j]? = some e → p e = false) → ds.find? p = some d
  | e :: ds, 0, d, h, q, _ => by
    obtain rfl : e = d := Option.some.inj h
    rw [List.find?_cons, q]
  | e :: ds, i + 1, d, h, q, b => by
    rw [List.find?_cons, b 0 e (Nat.succ_pos i) rfl]
    exact find_at (i := i) (by simpa using h) q fun j x hj hx => b (j + 1) x (Nat.succ_lt_succ hj) (by simpa using hx)
def spCheck (C : Addr) : Sp := fun vs H Q E => ∃ (r : Addr) (v0 : V) (us : List V) (d0 : Th) (ds : List Th), vs = [.ref r] ∧ Rd H r (.tup (v0 :: us)) ∧ ThsAt H (v0 :: us) (d0 :: ds) ∧
  (dueRows (d0 :: ds) = none → ∀ H', Same H H' → Q .non H') ∧
  ∀ d, dueRows (d0 :: ds) = some d → ∀ (x : Addr) (v : V) (H' : Hp), Same H H' → H x = none → H' x = some (.xd [("asked", v)]) → ThAt H' v d → E (.ref C) (some x) H'
theorem ok_check {f C fI f1 f2 f4 : Addr} {fd fd1 fd2 fd4 : FuncData} (F : Fun K "check_rows" "check_rows" sCheck f fd) (T : PySem.LowX.LowTxt K mg C fI) (D1 : Df P w K mg base CX0 "are_hands" 2 f1 fd1 ["thing"] spAreHands) (D2 : Df P w K mg base CX0 "copied" 2 f2 fd2 ["thing"] spCopied1) (D4 : Df P w K mg base (L2.CX P w) "check_row" 3 f4 fd4 ["hands", "row"] (spCheckRow C)) :
    FnOk P w K mg base (L2.CX P w) 4 f fd ["rows"] (spCheck C) := by
  refine F.okX scCheck (fun vs H Q E h => ?_) (fun cdv A outer s H vs Q E hr h => ?_)
  · obtain ⟨r, v0, us, d0, ds, rfl, _⟩ := h
    rfl
  · obtain ⟨r, v0, us, d0, ds, rfl, hrr, hall, kN, kS⟩ := h
    have nd := scCheck.nd
    have hr2 : Room 2 _ := hr.mono (by decide)
    refine ⟨_, pss_cons (ps_set (i := 1) nd rfl (.inl rfl) (pe_ix ix_tup (pv 0) pe_int (fun _ _ => rfl)))
      (pss_cons (ps_if (pt_not (pt_val (pe_call D1.ok (hr.mono (by decide)) rfl D1.g D1.kp D1.b .nil pass0 (pa_cons (pv 1) pa_nil)))) (pss_one (ps_raiseLow rfl T hr2 (takes_of rfl rfl rfl rfl) (by exact (pa_cons (pe_call D2.ok hr2 rfl D2.g D2.kp D2.b .nil pass0 (pa_cons (pv 1) pa_nil)) pa_nil)))) pss_nil)
      (pss_one (ps_for (passes_of rfl) rfl (pi_tup (pv 0)) (pg_name (i := 2) nd rfl (.inl rfl))
        (pss_one (ps_expr (pe_call D4.ok hr rfl D4.g D4.kp D4.b .nil (passes_call (W := fun cls d _ H => E cls d H) (takes_of rfl rfl rfl rfl) fun _ _ _ _ h => h) (pa_cons (pv 1) (pa_cons (pv 2) pa_nil)))))))), ?_⟩
    obtain ⟨h0t, ⟨h0f, h0z⟩, hus⟩ := hall
    have hall : ThsAt H (v0 :: us) (d0 :: ds) := ⟨h0t, ⟨h0f, h0z⟩, hus⟩
    have raiseIt : ∀ (j : Nat) (v : V) (d : Th) (σ : L2.St) (H1 : Hp), σ[j]? = some (some v) → Same H H1 → ThAt H v d → d.fit → FrzD H v d → dueRows (d0 :: ds) = some d → tMkLow C (tCons (tCall spCopied1 [] E0 (tCons (tVar j) tNil)) tNil) σ H1 fun cls d H => E cls d H := by
      intro j v d σ H1 hj s1 hv hf hz hd
      refine ⟨v, hj, ⟨v, d, rfl, hv.same s1, hf, hz.same s1, fun v' H2 s2 t2 => ⟨v', rfl, fun x hx => ?_⟩⟩⟩
      exact kS d hd x v' _ (s1.trans (s2.trans (same_new hx))) (by
        cases e : H x with
        | none => rfl
        | some o => rw [s1.trans s2 x o e] at hx; cases hx) upd_same (t2.same (same_new hx))
    refine ⟨_, rfl, r, v0 :: us, (0 : Int), v0, rfl, rfl, .inl hrr, atI_nat (j := 0) rfl, ?_⟩
    refine ⟨v0, rfl, ?_⟩
    dsimp only [tNil]
    refine hands_of (E := E0) (v := v0) (d := d0) (Q := _) h0t h0f fun H1 s1 => ?_
    refine ⟨_, rfl, ?_⟩
    by_cases hh : d0.isHands
    · refine iteNS hh ?_
      obtain ⟨a0, ea, hl0⟩ : ∃ a0, v0 = .ref a0 ∧ LTu H a0 (d0.names.map V.str) := by
        cases d0 with
        | oth o => exact hh.elim
        | lst xs => obtain ⟨a, e, h⟩ := h0t; exact ⟨a, e, .inl h⟩
        | tup xs => obtain ⟨a, e, h⟩ := h0t; exact ⟨a, e, .inr h⟩
      refine ⟨_, rfl, r, rfl, ⟨_, .inl (rd_same s1 hrr)⟩, ?_⟩
      refine for_tup (K := K) (a := r) (xs := v0 :: us) (fun i σ H2 => ∃ o : Option V, σ = [some (.ref r), some v0, o] ∧ Same H H2 ∧ ∀ (j : Nat) (e : Th), j < i → (d0 :: ds)[j]? = some e → IsRow d0.names e) ⟨none, rfl, s1, fun j e h => absurd h (Nat.not_lt_zero _)⟩ (fun i σ H2 _ ⟨_, _, s2, _⟩ => .inl (rd_same s2 hrr)) (fun i x σ H2 hx p => ?_) (fun σ H2 p => ?_)
      · obtain ⟨o, rfl, s2, pr⟩ := p
        obtain ⟨d, hd, ht, hf, hz⟩ := hall.at hx
        refine ⟨v0, rfl, x, rfl, ⟨a0, x, d0.names, d, by rw [ea]; rfl, hl0.same s2, h0f.1, ht.same s2, hf, hz.same s2, fun hi H3 s3 => ?_, fun hi y u H3 s3 hy ey ty => ?_⟩⟩
        · refine ⟨_, rfl, s2.trans s3, fun j e hj he => ?_⟩
          rcases Nat.lt_succ_iff_lt_or_eq.mp hj with h | rfl
          · exact pr j e h he
          · rw [hd] at he
            exact Option.some.inj he ▸ hi
        · refine kS d ?_ y u H3 (s2.trans s3) (by
            cases e : H y with
            | none => rfl
            | some o => rw [s2 y o e] at hy; cases hy) ey ty
          refine (if_pos hh).trans ?_
          exact find_at hd (by rw [decide_eq_false hi]; rfl) fun j e hj he => by rw [decide_eq_true (pr j e hj he)]; rfl
      · obtain ⟨o, rfl, s2, pr⟩ := p
        refine kN ?_ H2 s2
        refine (if_pos hh).trans ?_
        refine find_none fun j e he => ?_
        have hj : j < (v0 :: us).length := by
          rw [hall.len]
          exact (List.getElem?_eq_some_iff.mp he).1
        rw [decide_eq_true (pr j e hj he)]
        rfl
    · rw [decide_eq_false hh]
      refine iteT (raiseIt 1 v0 d0 _ H1 rfl s1 h0t h0f h0z ?_)
      exact if_neg hh
end
end Ah
set_option Elab.async false
set_option linter.all false
set_option maxRecDepth 100000
set_option maxHeartbeats 4000000
namespace Ah
open PySem PySem.Spec PyProof.Rows L2
/-- two neighbours changed -/
def exch {α : Type} (l : List α) (p : Nat) : List α := l.take p ++ ((l.drop (p + 1)).take 1 ++ (l.drop p).take 1) ++ l.drop (p + 2)
theorem exch_map {α β : Type} (f : α → β) (l : List α) (p : Nat) : exch (l.map f) p = (exch l p).map f := by
  unfold exch
  simp only [List.map_append, List.map_take, List.map_drop]
theorem drop_one {α : Type} {l : List α} {p : Nat} {x : α} (h : l[p]? = some x) : (l.drop p).take 1 = [x] := by
  obtain ⟨hp, e⟩ := List.getElem?_eq_some_iff.mp h
  rw [List.drop_eq_getElem_cons hp, e]
  rfl
theorem exch_len {α : Type} {l : List α} {p : Nat} (h : p + 1 < l.length) : (exch l p).length = l.length := by
  unfold exch
  simp only [List.length_append, List.length_take, List.length_drop]
  omega
theorem rd_to {H : Hp} {a : Addr} {xs ys : List V} (h : Rd H a (.tup xs)) (e : xs = ys) : Rd H a (.tup ys) := e ▸ h
theorem slA {K : PySem.W.Frag} {H : Hp} {a : Addr} {xs : List V} {lo hi : Option Int} {Q : VK} (ha : Rd H a (.tup xs)) (k : ∀ b H', Same H H' → Rd H' b (.tup (cutV xs lo hi)) → Q (.ref b) H') : rSlA K (.ref a) lo hi H Q := by
  refine ⟨a, xs, rfl, .inl ha, fun w => k a H (Same.refl H) ?_, fun _ b hb => k b _ (same_new hb) (.inl upd_same)⟩
  unfold cutV
  rw [w.1, w.2, List.drop_zero, Nat.sub_zero, List.take_length]
  exact ha
theorem catA {K : PySem.W.Frag} {H : Hp} {a b : Addr} {xs ys : List V} {Q : VK} (ha : Rd H a (.tup xs)) (hb : Rd H b (.tup ys)) (hz : xs.length + ys.length ≤ 1000) (k : ∀ c H', Same H H' → Rd H' c (.tup (xs ++ ys)) → Q (.ref c) H') : rCatA K (.ref a) (.ref b) H Q := by
  refine ⟨a, b, xs, ys, rfl, rfl, .inl ha, .inl hb, ?_, fun e => ?_, fun _ e => ?_, fun _ _ c hc => k c _ (same_new hc) (.inl upd_same)⟩
  · exact Nat.le_of_lt (small1000 hz)
  · subst e
    exact k b H (Same.refl H) hb
  · subst e
    exact k a H (Same.refl H) (by rw [List.append_nil]; exact ha)
theorem cutV_to {xs : List V} {p : Nat} (h : p ≤ xs.length) : cutV xs none (some (p : Int)) = xs.take p := by
  unfold cutV
  rw [HT.sIx_none, HT.sIx_nat, List.drop_zero, Nat.sub_zero, Nat.min_eq_left h]
theorem cutV_from {xs : List V} {p : Nat} (h : p ≤ xs.length) : cutV xs (some (p : Int)) none = xs.drop p := by
  unfold cutV
  rw [HT.sIx_none, HT.sIx_nat, Nat.min_eq_left h]
  exact List.take_of_length_le (by rw [List.length_drop]; omega)
abbrev sLawEx : Stmt := topS 22
section
variable {P : Program} {w : World} {K : PySem.W.Frag} {mg : Str → Option Value} {base : Heap}
theorem scLawEx : FnScope ["row", "place"] ["row", "place"] (defScope sLawEx) := ⟨rfl, rfl, rfl, by decide +kernel, rfl, by decide +kernel, by decide +kernel⟩
def spExch : Sp := fun vs H Q _ => ∃ (r : Addr) (p : Nat) (xs : List Str), vs = [.ref r, .int p] ∧ Rd H r (.tup (xs.map V.str)) ∧ p + 1 < xs.length ∧ xs.length ≤ 1000 ∧ ∀ b H', Same H H' → Rd H' b (.tup ((exch xs p).map V.str)) → Q (.ref b) H'
theorem exch_read {H : Hp} {r : Addr} {p : Nat} {xs : List Str} {Q : VK} (hr : Rd H r (.tup (xs.map V.str))) (hp : p + 1 < xs.length) (hl : xs.length ≤ 1000) (k : ∀ b H', Same H H' → Rd H' b (.tup ((exch xs p).map V.str)) → Q (.ref b) H') :
    tOp (rCatA K) (tOp (rCatA K) (tSl (rSlA K) (tVar 0) tNoPart (tPart (tVar 1))) (tTup (tCons (tOp (rIxT K) (tVar 0) (tOp (rI0 fun i j => .int (i + j)) (tVar 1) (tC (.int 1)))) (tCons (tOp (rIxT K) (tVar 0) (tVar 1)) tNil)))) (tSl (rSlA K) (tVar 0) (tPart (tOp (rI0 fun i j => .int (i + j)) (tVar 1) (tC (.int 2)))) tNoPart) [some (.ref r), some (.int p)] H Q := by
  have lm : (xs.map V.str).length = xs.length := List.length_map ..
  refine ⟨_, rfl, _, rfl, _, rfl, ?_⟩
  refine slA hr fun b1 H1 s1 e1 => ?_
  have r1 := rd_same s1 hr
  refine ⟨_, rfl, _, rfl, _, _, rfl, rfl, r, xs.map V.str, ((p + 1 : Nat) : Int), (xs.map V.str)[p + 1]'(by omega), rfl, rfl, .inl r1, atI_nat (List.getElem?_eq_getElem _), ?_⟩
  refine ⟨_, rfl, _, rfl, r, xs.map V.str, (p : Int), (xs.map V.str)[p]'(by omega), rfl, rfl, .inl r1, atI_nat (List.getElem?_eq_getElem _), ?_⟩
  refine ⟨by simp [sizeLine_eq], fun b2 hb2 => ?_⟩
  refine catA (K := K) (rd_same (same_new hb2) e1) (.inl upd_same) ?_ fun b3 H3 s3 e3 => ?_
  · rw [cutV_to (by omega), List.length_take]
    show _ + 2 ≤ 1000
    omega
  have s13 := (same_new hb2).trans s3
  refine ⟨_, rfl, _, rfl, _, _, rfl, rfl, _, rfl, ?_⟩
  dsimp only [tNoPart]
  refine slA (rd_same s13 r1) fun b4 H4 s4 e4 => ?_
  refine catA (K := K) (rd_same s4 e3) e4 ?_ fun b5 H5 s5 e5 => ?_
  · rw [show ((p : Int) + 2) = ((p + 2 : Nat) : Int) from rfl, cutV_from (by omega), cutV_to (by omega), List.length_append, List.length_take, List.length_drop]
    show _ + 2 + _ ≤ 1000
    omega
  refine k b5 H5 (s1.trans (s13.trans (s4.trans s5))) ?_
  refine rd_to e5 ?_
  rw [show ((p : Int) + 2) = ((p + 2 : Nat) : Int) from rfl, cutV_from (by omega), cutV_to (by omega), ← exch_map]
  unfold exch
  rw [drop_one (List.getElem?_eq_getElem (show p + 1 < (xs.map V.str).length by omega)), drop_one (List.getElem?_eq_getElem (show p < (xs.map V.str).length by omega))]
  rfl
theorem ok_lawEx {f : Addr} {fd : FuncData} (F : Fun K "_law_changed" "_law_changed" sLawEx f fd) : FnOk P w K mg base CX0 1 f fd ["row", "place"] spExch := by
  refine F.ok scLawEx (fun vs H Q E h => ?_) (fun cdv A outer s H vs Q E hr h => ?_)
  · obtain ⟨r, p, xs, rfl, _⟩ := h
    rfl
  · obtain ⟨r, p, xs, rfl, hr, hp, hl, k⟩ := h
    refine ⟨_, pss_one (ps_ret (pe_op op_catA (pe_op op_catA (pe_slice sl_tupA (pv 0) po_none (po_some (pv 1))) (pe_tup (pa_cons (pe_ix ix_tup (pv 0) (pe_op op_add (pv 1) pe_int) (fun _ _ => rfl)) (pa_cons (pe_ix ix_tup (pv 0) (pv 1) (fun _ _ => rfl)) pa_nil))))
      (pe_slice sl_tupA (pv 0) (po_some (pe_op op_add (pv 1) pe_int)) po_none))), ?_⟩
    exact exch_read (Q := Q) hr hp hl k
end
end Ah
set_option Elab.async false
set_option linter.all false
set_option maxRecDepth 100000
set_option maxHeartbeats 4000000
/-! tuples whose object is known: made, joined, cut, turned round; t.index(text) of one -/
namespace Ah
open PySem PySem.Spec PyProof.Rows L2
section
variable {prog : Program} {w : World} {A : Around} {E : Value → Shared → Prop} {s : Shared}
theorem adjust_rev (n : Nat) : Builtin.Slice.sliceAdjust none none (-1) (n : Int) = ((n : Int) - 1, -1) := by
  unfold Builtin.Slice.sliceAdjust
  simp
theorem places_rev (n : Nat) : Builtin.Slice.slicePlaces ((n : Int) - 1) (-1) (-1) = n := by
  unfold Builtin.Slice.slicePlaces
  have h1 : ¬ ((-1 : Int) > 0) := by decide
  simp only [h1, if_false]
  by_cases h : (n : Int) - 1 > -1
  · rw [if_pos h, show (- -1 : Int) = 1 by decide, Int.ediv_one]
    omega
  · rw [if_neg h]
    omega
theorem fm_congr {α β : Type} {f g : α → Option β} : ∀ {l : List α}, (∀ x ∈ l, f x = g x) → l.filterMap f = l.filterMap g
  | [], _ => rfl
  | a :: l, h => by
    rw [List.filterMap_cons, List.filterMap_cons, h a List.mem_cons_self, fm_congr fun x hx => h x (List.mem_cons_of_mem _ hx)]
theorem pick_rev (xs : Array Value) : ((List.range xs.size).filterMap fun (m : Nat) => xs[(((xs.size : Int) - 1) + (m : Int) * (-1)).toNat]?).toArray = xs.toList.reverse.toArray := by
  have e : (List.range xs.size).filterMap (fun (m : Nat) => xs[(((xs.size : Int) - 1) + (m : Int) * (-1)).toNat]?) = ((List.range xs.size).map fun k => xs.size - 1 - k).filterMap (xs[·]?) := by
    rw [List.filterMap_map]
    refine fm_congr fun m hm => ?_
    have := List.mem_range.mp hm
    show xs[(((xs.size : Int) - 1) + (m : Int) * (-1)).toNat]? = xs[xs.size - 1 - m]?
    rw [show (((xs.size : Int) - 1) + (m : Int) * (-1)).toNat = xs.size - 1 - m by omega]
  rw [e, PySem.W.krv_range, List.filterMap_reverse, PySem.W.krv_all]
theorem getItem_tuple_rev {t sl : Addr} {items : Array Value} {k : Tok} {Q : Value → Shared → Prop} (ht : IsTup s.heap t items) (hs : s.heap.IsSliceOf sl .none .none (.int (-1) k))
    (h : Q (.ref s.heap.objs.size) { s with heap := s.heap.push { cls := .type "tuple", data := .seq items.toList.reverse.toArray } }) (hsz : items.size ≤ sizeLine) : wpAny (model prog w) A (getItem (.ref t) (.ref sl)) Q E s := by
  have htake : sizeOk (.seq items.toList.reverse.toArray) := by
    show items.toList.reverse.toArray.size ≤ sizeLine
    rw [List.size_toArray, List.length_reverse, Array.length_toList]
    exact hsz
  obtain ⟨os, hos, hcs, hds⟩ := id hs
  have hTs : s.TypeIs (.ref sl) "slice" := ⟨os, hos, hcs⟩
  unfold getItem
  try with_reducible refine wpAny_holding ?_
  first | refine wpAny_bind (wpAny_pure ?_) | skip
  refine wpAny_bind (wpAny_sequenceKey ht.typeIs (by decide) ?_)
  refine wpAny_bind (wpAny_callSpecial?_slot (name := Str.ofString "__getitem__") ht.typeIs PyProof.Rows.slot_tuple_getitem
    (wpAny_call_entry PyProof.Rows.slot_tuple_getitem ht.typeIs PyProof.Rows.entry_tuple_getitem ?_ (PyProof.Rows.args_tuple_getitem _ _)))
  show wpAny _ _ (Builtin.Tuple.tupleItemsOf (.ref t) >>= _) _ _ s
  refine wpAny_bind (PyProof.Rows.tupleItemsOf_ ht ?_)
  refine wpAny_bind (wpAny_typeOf hTs ?_)
  rw [if_pos (by decide)]
  refine wpAny_bind ?_
  · unfold Builtin.Slice.sliceApplied Builtin.Slice.sliceFields
    refine wpAny_bind (wpAny_bind (wpAny_field hos hds (x := .none) rfl (wpAny_bind (wpAny_field hos hds (x := .none) rfl (wpAny_bind (wpAny_field hos hds (x := .int (-1) k) rfl (wpAny_pure ?_)))))))
    refine wpAny_bind (PyProof.Rows.slicePart_int ?_)
    show wpAny _ _ (if ((-1 : Int) == 0) = true then _ else _) _ _ s
    rw [if_neg (by decide)]
    refine wpAny_bind (PyProof.Rows.slicePart_none (wpAny_bind (PyProof.Rows.slicePart_none (wpAny_bind (wpAny_pure ?_)))))
    show wpAny _ _ (match Builtin.Slice.sliceAdjust none none (-1) (items.size : Int) with | (lo, hi) => pure (lo, (-1 : Int), Builtin.Slice.slicePlaces lo hi (-1))) _ _ s
    rw [adjust_rev]
    show wpAny _ _ (pure (((items.size : Int) - 1), (-1 : Int), Builtin.Slice.slicePlaces ((items.size : Int) - 1) (-1) (-1))) _ _ s
    rw [places_rev]
    refine wpAny_pure ?_
    have hno : ¬ ((((items.size : Int) - 1) == 0 && (-1 : Int) == 1 && items.size == items.size) = true) := by simp
    show wpAny _ _ (if (((items.size : Int) - 1) == 0 && (-1 : Int) == 1 && items.size == items.size) = true then _ else _) _ _ s
    rw [if_neg hno, pick_rev]
    first
      | exact wpAny_bind (m := Builtin.Tuple.tupleExact _) (wpAny_newObj_type (wpAny_pure ⟨_, rfl, wpAny_pure h⟩) htake)
      | exact wpAny_bind (m := Builtin.Tuple.tupleExact _) (wpAny_newObj_type (wpAny_bind (wpAny_pure (wpAny_pure ⟨_, rfl, wpAny_pure h⟩))) htake)
      | exact wpAny_bind (wpAny_bind (m := Builtin.Tuple.tupleExact _) (wpAny_newObj_type (wpAny_pure (wpAny_pure ⟨_, rfl, wpAny_pure h⟩)) htake))
      | exact wpAny_bind (wpAny_bind (m := Builtin.Tuple.tupleExact _) (wpAny_newObj_type (wpAny_pure ⟨_, rfl, wpAny_pure h⟩) htake))
end
section
variable {X : Cx}
/-- a new tuple, its object known -/
def NewF (H : Hp) (xs : List V) (Q : VK) : Prop := ∀ (p : Addr) (o : Obj), o.dict = none → H p = none → Q (.ref p) (upd H p (.frz o (.tup xs)))
def tRevT (K : PySem.W.Frag) (te : TE) : TE := fun σ H Q => te σ H fun x H1 => ∃ a xs, x = .ref a ∧ SqT K H1 a xs ∧ NewF H1 xs.reverse Q
theorem pe_revT {e : Expr} {te : TE} {k : Nat} {p1 p2 p3 pos : Pos} (he : PE X e te) : PE X (.Subscript e (.Slice none none (some (.UnaryOp .USub (.Constant (.int 1) k p1) p2)) p3) pos) (tRevT X.K te) := by
  refine ⟨fun pins s σ H Q I h => ?_⟩
  refine Subscript_ (thn (he.run pins s σ H _ I h) fun v s1 ⟨x, H1, I1, r1, q1⟩ => ?_)
  obtain ⟨a, xs, ex, hx, q⟩ := q1
  subst ex
  cases r1
  have hst : PO X (some (.UnaryOp .USub (.Constant (.int 1) k p1) p2)) (tPart (tUn (rU fun i => .int (-i)) (tC (.int 1)))) := po_some (pe_un un_neg pe_int)
  refine wpAny_Slice (thn (po_none.run pins s1 σ H1 (fun o H2 => o = none ∧ H2 = H1) I1 ⟨rfl, rfl⟩) fun vl s2 ⟨l, H2, I2, pl, el, e2⟩ => ?_)
  subst el e2
  refine thn (po_none.run pins s2 σ H2 (fun o H3 => o = none ∧ H3 = H2) I2 ⟨rfl, rfl⟩) fun vu s3 ⟨u, H3, I3, pu, eu, e3⟩ => ?_
  subst eu e3
  refine thn (hst.run pins s3 σ H3 (fun o H4 => o = some (-1) ∧ H4 = H3) I3 ⟨1, rfl, -1, rfl, rfl, rfl⟩) fun vs s4 ⟨o, H4, I4, ps, eo, e4⟩ => ?_
  subst eo e4
  have I5 : Inv X pins σ H4 { s4 with heap := s4.heap.push { cls := .type "slice", data := .fields #[vl, vu, vs] } } := I4.kept (t' := s4.toks) fun b ob q => Heap.get?_push_of_some _ q
  obtain ⟨its, r, ht, hz⟩ := I5.tuple hx
  have hlen := r.length
  cases pl
  cases pu
  obtain ⟨kk, rfl⟩ : ∃ kk, vs = Value.int (-1) kk := by
    cases ps
    exact ⟨_, rfl⟩
  show wpAny (model X.prog X.w) X.A (subscriptTail e (.Slice none none (some (.UnaryOp .USub (.Constant (.int 1) k p1) p2)) p3) (.ref a) (.ref s4.heap.objs.size)) (EP X pins σ Q) X.xe { s4 with heap := s4.heap.push { cls := .type "slice", data := .fields #[.none, .none, .int (-1) kk] } }
  refine tail_any (ops := [.ref a, .ref s4.heap.objs.size]) ht.typeIs (PyProof.Rows.slot_tuple_getitem.lookup) ?_ (by with_unfolding_all rfl)
  refine getItem_tuple_rev ht (Heap.IsSliceOf.new _ _ _ _) ?_ (by rw [List.size_toArray]; omega)
  refine ⟨.ref _, _, I5.laid (t' := s4.toks) (o := .frz { cls := .type "tuple", data := .seq its.reverse.toArray } (.tup xs.reverse)) (fun b ob q => Heap.get?_push_of_some _ q) (Nat.le_refl _) ?_, rfl, q _ _ rfl (I5.hok.fresh (Nat.le_refl _))⟩
  exact ⟨Heap.get?_push_size _ rfl, by rw [List.length_reverse]; omega, _, r.reverse, IsTup.new _ _⟩
def tTupF (t : TA) : TE := fun σ H Q => t σ H fun xs H1 => xs.length ≤ sizeLine ∧ NewF H1 xs Q
theorem pe_tupF {es : List Expr} {t : TA} {pos : Pos} {x1 : Nat} (h : PA X es t) : PE X (.Tuple es x1 pos) (tTupF t) := by
  refine ⟨fun pins s σ H Q I hq => ?_⟩
  refine wpAny_Tuple_spliced (thn (h.run pos pins s σ H _ I hq) fun us s1 ⟨xs, H1, I1, r, z, q⟩ => ⟨by rw [← r.length]; exact z, ?_⟩)
  have hf : H1 s1.heap.objs.size = none := I1.hok.fresh (Nat.le_refl _)
  refine ⟨.ref s1.heap.objs.size, _, I1.laid (t' := s1.toks) (o := .frz { cls := .type "tuple", data := .seq us.toArray } (.tup xs)) (fun b u e => Heap.get?_push_of_some _ e) (Nat.le_refl _) ?_, rfl, q _ _ rfl hf⟩
  exact ⟨Heap.get?_push_size _ rfl, z, us, r, ⟨_, Heap.get?_push_size _ rfl, rfl, _, rfl⟩⟩
def rCatF (K : PySem.W.Frag) : R2 := fun x y H Q => ∃ a b xs ys, x = .ref a ∧ y = .ref b ∧ SqT K H a xs ∧ SqT K H b ys ∧ xs.length + ys.length ≤ sizeLine ∧
  (xs = [] → Q (.ref b) H) ∧ (xs ≠ [] → ys = [] → Q (.ref a) H) ∧ (xs ≠ [] → ys ≠ [] → NewF H (xs ++ ys) Q)
theorem op_catF : OpR X (binaryOp .Add) (rCatF X.K) := by
  intro pins s σ H x y v u Q I rx ry h
  obtain ⟨a, b, xs, ys, rfl, rfl, ha, hb, hz, q0, q1, q2⟩ := h
  cases rx
  cases ry
  obtain ⟨its, r1, p1, _⟩ := I.tuple ha
  obtain ⟨its2, r2, p2, _⟩ := I.tuple hb
  by_cases hx : xs = []
  · subst hx
    cases r1
    exact cat_tup0 p1 p2 ⟨.ref b, H, I, rfl, q0 rfl⟩
  · refine HT.cat_tup p1 p2 (fun z => hx (r1.nil_iff.mp z)) (fun z => ⟨.ref a, H, I, rfl, q1 hx (r2.nil_iff.mp z)⟩) (fun z => ?_) (by rw [← r1.length, ← r2.length]; exact hz)
    refine ⟨.ref s.heap.objs.size, _, I.laid (t' := s.toks) (o := .frz { cls := .type "tuple", data := .seq (its ++ its2).toArray } (.tup (xs ++ ys))) (fun b ob q => Heap.get?_push_of_some _ q) (Nat.le_refl _) ?_, rfl, q2 hx (fun w => z (r2.nil_iff.mpr w)) _ _ rfl (I.hok.fresh (Nat.le_refl _))⟩
    exact ⟨Heap.get?_push_size _ rfl, by rw [List.length_append]; exact hz, _, r1.append r2, IsTup.new _ _⟩
theorem call_tuple_ofF : CallR X (.type "tuple") (fun xs H Q => ∃ p ys, xs = [.ref p] ∧ SqL X.K H p ys ∧ NewF H ys Q) := by
  intro pins s σ H xs us Q I r h
  obtain ⟨p, ys, rfl, hq, q⟩ := h
  obtain ⟨u, rfl, rx⟩ := vals1 r
  cases rx
  obtain ⟨its, r', pl, hz⟩ := I.list hq
  have hlen := r'.length
  refine call_tuple_list pl.isList (fun h' kp => ?_) (by simp only [List.size_toArray] <;> omega)
  have I1 : Inv X pins σ H { s with heap := h' } := I.kept (t' := s.toks) kp
  have I2 : Inv X pins σ (upd H h'.objs.size (.frz { cls := .type "tuple", data := .seq its.toArray } (.tup ys))) { s with heap := h'.push { cls := .type "tuple", data := .seq its.toArray } } :=
    I1.laid (t' := s.toks) (fun b o e => Heap.get?_push_of_some _ e) (Nat.le_refl _) (show ObjOk X.prog X.w _ _ _ (.frz _ (.tup ys)) from ⟨Heap.get?_push_size _ rfl, hz, its, r', IsTup.new _ _⟩)
  exact ⟨.ref h'.objs.size, _, I2, rfl, q _ _ rfl (I1.hok.fresh (Nat.le_refl _))⟩
/-- t.index(text), t a tuple of unlike texts, its object known -/
def tTix (K : PySem.W.Frag) (to : TE) (t : TA) : TE := fun σ H Q => to σ H fun x H1 => ∃ a ys, x = .ref a ∧ Ftp H1 a ys ∧ t σ H1 fun vs H2 => ∃ (zs : List Str) (z : Str) (j : Nat), vs = [.str z] ∧ SqT K H2 a (zs.map V.str) ∧ zs[j]? = some z ∧ (∀ m, m < j → zs[m]? ≠ some z) ∧ Q (.int (j : Nat)) H2
variable {o e : Expr} {to : TE} {t : TA} {apos cpos : Pos}
theorem pe_tix (ho : PE X o to) (ha : PA X [e] t)
    (hbase : attributeBase o "index" X.env (eval o X.env) = eval o X.env := by rfl)
    (hfew : ((backTo cpos (starEach [e] X.env)).all (fun x => !x.1) && (backToKw cpos (keywordEach [] X.env)).all (fun x => x.1.isSome)
      && decide ([e].length + ([] : List Keyword).length + (if ([] : List Keyword).isEmpty then 0 else 1) < 30)) = true := by rfl)
    (hline : (apos.endLine == cpos.line) = true := by rfl) (hs : starEach [e] X.env = (false, eval e X.env) :: starEach [] X.env := by rfl) (hplain : (backTo cpos (starEach [] X.env)).any (·.1) = false := by rfl) :
    PE X (.Call (.Attribute o "index" apos) [e] [] cpos) (tTix X.K to t) := by
  refine ⟨fun pins s σ H Q I h => ?_⟩
  refine wpAny_Call_method_late hbase hfew hline rfl (thn (ho.run pins s σ H _ I h) fun v s1 ⟨x, H1, I1, r1, a, ys, ex, ⟨ob, hd, hob⟩, q1⟩ => ?_)
  subst ex
  cases r1
  obtain ⟨g1, _, its, _, isT⟩ := (show ObjOk X.prog X.w H1 s1.heap a (.frz ob (.tup ys)) from I1.hok a _ hob)
  refine ⟨"tuple", "tuple.index", PySem.F.plainAttrs_tuple, PySem.F.slot_tuple_index, PySem.F.type_tuple_index, isT.typeIs, fun b eb => ?_, ?_⟩
  · cases eb
    exact ⟨ob, g1, hd⟩
  · have hA := ha.run cpos pins s1 σ H1 _ I1 q1
    rw [hs] at hA ⊢
    refine Calls.callWith_builtin (by show (false || (backTo cpos (starEach [] X.env)).any (·.1)) = false; rw [hplain] <;> rfl) (Calls.evalArgs_plain ?_)
    exact thn hA fun us s2 ⟨vs, H2, I2, r2, zs, z, j, ev, q2, q3, q4, q5⟩ => mt_tup_index pins s2 σ H2 (.ref a) vs (.ref a) us Q I2 rfl r2 ⟨a, zs, z, j, rfl, ev, q2, q3, q4, q5⟩
end
end Ah
set_option Elab.async false
set_option linter.all false
set_option maxRecDepth 100000
set_option maxHeartbeats 2000000
/-! sorted(t), t a tuple (or list) of texts -/
namespace PySem
open Sem (wp)
open AutoSeq1 (wpAny_loadPart')
section
variable {prog : Program} {w : World} {A : Around} {E : Value → Shared → Prop} {s : Shared}
/-- what a sequence holds, as a list: the heap behind -/
theorem collect_at {Q : List Value → Shared → Prop} (it : Addr) {T : String} {o : Obj} {items : Array Value} {n : Nat} (hT : T = "list" ∨ T = "tuple") (ho : s.heap.get? it = some o) (hc : o.cls = .type T) (hd : o.data = .seq items n)
    (hQ : ∀ h' : Heap, (∀ b u, s.heap.get? b = some u → h'.get? b = some u) → s.heap.objs.size ≤ h'.objs.size → Q items.toList { s with heap := h' }) (hsz : items.size ≤ sizeLine) : wpAny (model prog w) A (collect (.ref it)) Q E s := by
  unfold collect
  refine wpAny_bind (wpAny_runValue (codeAny_builtin F.entry_proto_collect ?_))
  rw [Around.under_plainId F.plain_proto_collect _]
  show wpAny _ A.in1 (newList [] >>= fun l => again (.builtin "list.__iadd__" ⟨[l, .ref it], []⟩)) _ _ s
  refine wpAny_bind (wpAny_newObj_type (wpAny_pure ⟨plainId_quiet F.plain_list_iadd _, codeAny_builtin F.entry_list_iadd ?_⟩))
  rw [Around.under_plainId F.plain_list_iadd _]
  have new : (s.heap.push { cls := .type "list", data := .seq ([] : List Value).toArray }).get? s.heap.objs.size = some { cls := .type "list", data := .seq #[] 0 } := Heap.get?_push_size _ rfl
  have read : wpAny (model prog w) A (match Value.ref s.heap.objs.size with
      | Value.ref a => do
        match (← load a).data with
          | Data.seq xs _ => pure xs.toList
          | _ => unsupported "internal:collect"
      | _ => unsupported "internal:collect") Q E { s with heap := (s.heap.push { cls := .type "list", data := .seq ([] : List Value).toArray }).update s.heap.objs.size (Obj.mapSeq (· ++ items)) } := by
    show wpAny _ A (load s.heap.objs.size >>= _) _ _ _
    refine wpAny_bind (wpAny_load (Heap.get?_update_self (Obj.mapSeq (· ++ items)) new rfl) (wpAny_pure ?_))
    show Q ((#[] : Array Value) ++ items).toList _
    rw [show ((#[] : Array Value) ++ items).toList = items.toList by simp]
    refine hQ _ (fun b u hb => (Heap.get?_update_other _ _ (Nat.ne_of_gt (Heap.lt_size hb))).trans (Heap.get?_push_of_some _ hb)) ?_
    rw [Heap.size_update, PyProof.Rows.size_push']
    exact Nat.le_succ _
  show wpAny _ A.in1 (Builtin.List.listExtendWith (.ref s.heap.objs.size) (.ref it) (.ref s.heap.objs.size)) _ _ _
  refine wpAny_mono (wpAny_extend_seq (hsz := hsz) (A := A) (R := fun r s' => r = .ok (.ret (.ref s.heap.objs.size)) ∧ s' = { s with heap := (s.heap.push { cls := .type "list", data := .seq ([] : List Value).toArray }).update s.heap.objs.size (Obj.mapSeq (· ++ items)) })
    (s := { s with heap := s.heap.push { cls := .type "list", data := .seq ([] : List Value).toArray } }) _ it _ 0 hT new (Heap.get?_push_of_some _ ho) hc hd ⟨rfl, rfl⟩) (fun r s2 z => ?_) fun r s2 z => absurd z.1 (by simp)
  match r, z with
  | .done f, z =>
    obtain ⟨e, rfl⟩ := z
    cases e
    exact read
  | .again c', z =>
    refine ⟨z.1, codeAny_mono z.2 fun r s3 q => ?_⟩
    obtain ⟨rfl, rfl⟩ := q
    exact read
end
end PySem
namespace PyProof.Rows
open PySem PyProof
section
variable {prog : Program} {w : World} {A : Around} {E : Value → Shared → Prop} {s : Shared}
theorem sorted_seqS {l : Addr} {T : String} {o : Obj} {vs : List Value} {n : Nat} {ss : List Str} {Q : Value → Shared → Prop} (hT : T = "list" ∨ T = "tuple") (ho : s.heap.get? l = some o) (hc : o.cls = .type T) (hd : o.data = .seq vs.toArray n) (hS : StrsAre vs ss) (h64 : vs.length < 64)
    (h : ∀ (h' : Heap) (a e : Nat) (out : List Value) (ss' : List Str), (∀ b u, s.heap.get? b = some u → h'.get? b = some u) → s.heap.objs.size ≤ a → h'.get? a = some (seqObj "list" out.toArray e) → StrsAre out ss' → ss'.Perm ss → sortedS ss' = true → Q (.ref a) { s with heap := h' }) :
    wpAny (model prog w) A (call (.builtin "sorted") [.ref l]) Q E s := by
  refine Calls.call_function_entry kind_sorted plain_sorted entry_sorted (args_sorted1 _) ?_
  unfold Builtin.«sorted»
  refine wpAny_bind (m := checkCount "sorted" 1 1 _) (wpAny_pure ?_)
  have hz : vs.toArray.size ≤ sizeLine := by rw [List.size_toArray, sizeLine_eq]; omega
  refine wpAny_bind (PySem.collect_at l hT ho hc hd (fun h1 k1 big => ?_) hz)
  refine wpAny_bind (wpAny_newList ?_)
  have hoL : (h1.push (seqObj "list" vs.toArray 0)).get? h1.objs.size = some (seqObj "list" vs.toArray 0) := Heap.get?_push_size _ rfl
  show wpAny _ _ _ _ _ { s with heap := h1.push (seqObj "list" vs.toArray 0) }
  refine wpAny_bind (wpAny_holding (wpAny_call_entry slot_list_sort ⟨_, hoL, rfl⟩ entry_list_sort (list_sort_treeK strKind_oneLt hoL hS.keysOf (fun v₁ v₂ rest e => keyKind_strs (by rw [← e]; exact hS)) h64 fun st' a1 a2 => ⟨_, rfl, ?_⟩) (args_list_sort _)))
  refine wpAny_pure ⟨_, rfl, ?_⟩
  obtain ⟨ss', b1, b2, b3⟩ := sorted_out_str hS a1 a2
  obtain ⟨e, he⟩ := sortedHeap_at (out := (arrOf st').map (·.2)) hoL
  refine h _ _ e ((arrOf st').map (·.2)).toList ss' (fun b u hb => ?_) big he b1 b2 b3
  have hb1 := k1 b u hb
  have hlt := Heap.lt_size hb1
  rw [sortedHeap_old (Nat.ne_of_lt hlt) (by rw [size_push']; exact Nat.lt_succ_of_lt hlt)]
  exact Heap.get?_push_of_some _ hb1
end
end PyProof.Rows
namespace Ah
open PySem PySem.Spec PyProof.Rows L2
def rSortedTS (K : PySem.W.Frag) : List V → Hp → VK → Prop := fun vs H Q => ∃ (a : Addr) (xs : List Str), vs = [V.ref a] ∧ (SqL K H a (xs.map V.str) ∨ SqT K H a (xs.map V.str)) ∧ xs.length < 64 ∧ ∀ (ys : List Str) (p : Addr), ys.Perm xs → sortedS ys = true → H p = none → Q (.ref p) (upd H p (.lst (ys.map V.str)))
section
variable {X : Cx}
theorem cr_sortedTS : CallR X (.builtin "sorted") (rSortedTS X.K) := by
  intro pins s σ H vs us Q I r h
  obtain ⟨a, xs, rfl, hs, h64, q⟩ := h
  have fin : ∀ (h' : Heap) (a e : Nat) (out : List Value) (ys : List Str), (∀ b u, s.heap.get? b = some u → h'.get? b = some u) → s.heap.objs.size ≤ a → h'.get? a = some (seqObj "list" out.toArray e) → StrsAre out ys → ys.Perm xs → sortedS ys = true → EP X pins σ Q (.ref a) { s with heap := h' } := fun h' a e out ys k ha he h1 h2 h3 => by
    have hlen : (ys.map V.str).length ≤ sizeLine := by rw [List.length_map, h2.length_eq]; exact small64 h64
    exact ⟨.ref _, upd H a (.lst (ys.map V.str)), I.laid (t' := s.toks) k ha ⟨hlen, out, e, vals_of_strs h1, he⟩, rfl, q ys _ h2 h3 (I.hok.fresh ha)⟩
  rcases hs with hs | hs
  · obtain ⟨its, rv, ⟨o, n, e, c, d, dd⟩, _⟩ := I.list hs
    rw [Vals.ref1 r]
    have hlen0 := rv.length
    rw [List.length_map] at hlen0
    exact PyProof.Rows.sorted_seqS (.inl rfl) e c dd rv.strs (by rw [← hlen0]; exact h64) fin
  · obtain ⟨its, rv, ⟨o, e, c, n, dd⟩, _⟩ := I.tuple hs
    rw [Vals.ref1 r]
    have hlen0 := rv.length
    rw [List.length_map] at hlen0
    exact PyProof.Rows.sorted_seqS (.inr rfl) e c dd rv.strs (by rw [← hlen0]; exact h64) fin
end
end Ah
set_option Elab.async false
set_option linter.all false
set_option maxRecDepth 100000
set_option maxHeartbeats 4000000
namespace Ah
open PySem PySem.Spec PyProof.Rows L2
/-- over a tuple's numbered items, a dict -/
theorem dc_enumT {K : PySem.W.Frag} {a : Addr} {xs : List V} {g : TG} {tt : TT} {tk tv : TE} {vs : List Nat} {σ : L2.St} {H1 : Hp} {D : Addr} {Qd : Hp → Prop} (Pv : Nat → Hp → Prop) (h0 : Pv 0 (upd H1 D (.dK []))) (hl : ∀ i H, i ≤ xs.length → Pv i H → SqT K H a xs)
    (hs : ∀ i x H T, xs[i]? = some x → Pv i H → H T = none → g (.ref T) (wipe σ vs) (upd H T (.tup [.int (i : Nat), x])) fun σ2 H2 => wipe σ2 vs = wipe σ vs ∧ tt σ2 H2 fun b H3 =>
      if b = true then tk σ2 H3 fun y H4 => tv σ2 H4 fun z H5 => ∃ kvs k, y = kV k ∧ H5 D = some (.dK kvs) ∧ kvs.length < sizeLine ∧ Pv (i + 1) (upd H5 D (.dK (putK kvs k z))) else Pv (i + 1) H3) (hd : ∀ H, Pv xs.length H → Qd H) :
    ∃ W : Nat → Nat → Hp → Prop, (∃ m, W 0 m (upd H1 D (.dK []))) ∧ ∀ i m H, W i m H →
      ((IteT K a).stop i H ∧ Qd H) ∨ ((IteT K a).go i H ∧ ∃ Nx : Hp → Prop, (∀ H', Nx H' → ∃ m', m' < m ∧ W (i + 1) m' H') ∧ ∀ x H', (IteT K a).yld i H x H' → g x (wipe σ vs) H' fun σ2 H2 => wipe σ2 vs = wipe σ vs ∧ tt σ2 H2 fun b H3 =>
        if b = true then tk σ2 H3 fun y H4 => tv σ2 H4 fun z H5 => ∃ kvs k, y = kV k ∧ H5 D = some (.dK kvs) ∧ kvs.length < sizeLine ∧ Nx (upd H5 D (.dK (putK kvs k z))) else Nx H3) := by
  refine ⟨fun i m H => m = xs.length - i ∧ i ≤ xs.length ∧ Pv i H, ⟨xs.length, by simp, Nat.zero_le _, h0⟩, ?_⟩
  rintro i m H ⟨rfl, hi, p⟩
  have q := hl i H hi p
  by_cases hlt : i < xs.length
  · refine .inr ⟨⟨xs, xs[i], q, by simp [hlt]⟩, Pv (i + 1), fun H' p' => ⟨xs.length - (i + 1), by omega, rfl, hlt, p'⟩, fun x H' y => ?_⟩
    obtain ⟨T, u, rfl, hT, rfl, y⟩ := y
    exact hs i u _ T (y xs q) p hT
  · have e : i = xs.length := by omega
    subst e
    exact .inl ⟨⟨xs, q, Nat.le_refl _⟩, hd H p⟩
/-- where each of them stands -/
def SpotsN (H : Hp) (D : Addr) (xs : List Str) (n : Nat) : Prop := ∃ kvs, H D = some (.dK kvs) ∧ kvs.length ≤ n ∧ ∀ j x, j < n → xs[j]? = some x → valV kvs (Sum.inr x : Key) = some (.int (j : Nat))
theorem SpotsN.same {H H' : Hp} {D : Addr} {xs : List Str} {n : Nat} (k : Same H H') (h : SpotsN H D xs n) : SpotsN H' D xs n := by
  obtain ⟨kvs, h1, h2⟩ := h
  exact ⟨kvs, k _ _ h1, h2⟩
theorem SpotsN.put {H : Hp} {D : Addr} {xs : List Str} {n : Nat} {x : Str} (nd : xs.Nodup) (hx : xs[n]? = some x) (h : SpotsN H D xs n) (hn : n ≤ 1000) :
    ∃ kvs, H D = some (.dK kvs) ∧ kvs.length < sizeLine ∧ SpotsN (upd H D (.dK (putK kvs (Sum.inr x : Key) (.int (n : Nat))))) D xs (n + 1) := by
  obtain ⟨kvs, h1, h2, h3⟩ := h
  refine ⟨kvs, h1, small1000 (by omega), _, upd_same, ?_, fun j y hj hy => ?_⟩
  · exact Nat.le_trans (DSub.putK_len _ _ _) (by omega)
  · rw [valV_put]
    by_cases e : j = n
    · subst e
      rw [hx] at hy
      obtain rfl := Option.some.inj hy
      rw [if_pos rfl]
    · have hl := (List.getElem?_eq_some_iff.mp hy)
      have hl2 := (List.getElem?_eq_some_iff.mp hx)
      rw [if_neg (fun z => e ?_)]
      · exact h3 j y (by omega) hy
      · obtain ⟨a1, a2⟩ := hl
        obtain ⟨b1, b2⟩ := hl2
        have z' : y = x := Sum.inr.inj z
        exact nd_inj nd a1 b1 (by rw [a2, b2, z'])
theorem none_of {H H' : Hp} {a : Addr} (k : Same H H') (h : H' a = none) : H a = none := by
  cases e : H a with
  | none => rfl
  | some o => rw [k a o e] at h; cases h
theorem getD_at {xs : List Str} {i : Nat} (h : i < xs.length) : xs[i]? = some (xs.getD i default) := by
  rw [List.getD_eq_getElem?_getD, List.getElem?_eq_getElem h]
  rfl
theorem idx_at {ys : List Str} {x : Str} (h : x ∈ ys) : ys[ys.idxOf x]? = some x := by
  have hl := List.idxOf_lt_length_of_mem h
  rw [List.getElem?_eq_getElem hl, List.getElem_idxOf hl]
theorem SpotsN.start {H : Hp} {D : Addr} {xs : List Str} : SpotsN (upd H D (.dK [])) D xs 0 := ⟨[], upd_same, Nat.le_refl _, fun j _ h => absurd h (Nat.not_lt_zero _)⟩
theorem spots_get {H : Hp} {D : Addr} {xs : List Str} {j : Nat} {x : Str} (h : SpotsN H D xs xs.length) (hx : xs[j]? = some x) : DGet H D (.str x) (some (.int (j : Nat))) := by
  obtain ⟨kvs, h1, _, h3⟩ := h
  have q := DGet.k (k := (Sum.inr x : Key)) h1
  rw [h3 j x (List.getElem?_eq_some_iff.mp hx).1 hx] at q
  exact q
abbrev sPairs : Stmt := topS 12
section
variable {P : Program} {w : World} {K : PySem.W.Frag} {mg : Str → Option Value} {base : Heap}
end
end Ah
set_option Elab.async false
set_option linter.all false
set_option maxRecDepth 100000
set_option maxHeartbeats 4000000
namespace Ah
open PySem PySem.Spec PyProof.Rows L2
open PySem.W (AllAlike Sortable)
/-- one walk over a tuple's numbered items -/
theorem out_enumT {K : PySem.W.Frag} {a : Addr} {xs : List V} {H0 : Hp} {Qd : Hp → Prop} {body : V → Hp → (Hp → Prop) → Prop} (Pv : Nat → Hp → Prop) (h0 : Pv 0 H0) (hl : ∀ i H, i ≤ xs.length → Pv i H → SqT K H a xs)
    (hs : ∀ i x H T, xs[i]? = some x → Pv i H → H T = none → body (.ref T) (upd H T (.tup [.int (i : Nat), x])) (Pv (i + 1))) (hd : ∀ H, Pv xs.length H → Qd H) :
    ∃ W : Nat → Nat → Hp → Prop, (∃ m, W 0 m H0) ∧ ∀ i m H, W i m H →
      ((IteT K a).stop i H ∧ Qd H) ∨ ((IteT K a).go i H ∧ ∃ Nx : Hp → Prop, (∀ H', Nx H' → ∃ m', m' < m ∧ W (i + 1) m' H') ∧ ∀ x H', (IteT K a).yld i H x H' → body x H' Nx) := by
  refine ⟨fun i m H => m = xs.length - i ∧ i ≤ xs.length ∧ Pv i H, ⟨xs.length, by simp, Nat.zero_le _, h0⟩, ?_⟩
  rintro i m H ⟨rfl, hi, p⟩
  have q := hl i H hi p
  by_cases hlt : i < xs.length
  · refine .inr ⟨⟨xs, xs[i], q, by simp [hlt]⟩, Pv (i + 1), fun H' p' => ⟨xs.length - (i + 1), by omega, rfl, hlt, p'⟩, fun x H' y => ?_⟩
    obtain ⟨T, u, rfl, hT, rfl, y⟩ := y
    exact hs i u _ T (y xs q) p hT
  · have e : i = xs.length := by omega
    subst e
    exact .inl ⟨⟨xs, q, Nat.le_refl _⟩, hd H p⟩
/-- one walk over a tuple -/
theorem out_tup {K : PySem.W.Frag} {a : Addr} {xs : List V} {H0 : Hp} {Qd : Hp → Prop} {body : V → Hp → (Hp → Prop) → Prop} (Pv : Nat → Hp → Prop) (h0 : Pv 0 H0) (hl : ∀ i H, i ≤ xs.length → Pv i H → SqT K H a xs)
    (hs : ∀ i x H, xs[i]? = some x → Pv i H → body x H (Pv (i + 1))) (hd : ∀ H, Pv xs.length H → Qd H) :
    ∃ W : Nat → Nat → Hp → Prop, (∃ m, W 0 m H0) ∧ ∀ i m H, W i m H →
      ((Itt K a).stop i H ∧ Qd H) ∨ ((Itt K a).go i H ∧ ∃ Nx : Hp → Prop, (∀ H', Nx H' → ∃ m', m' < m ∧ W (i + 1) m' H') ∧ ∀ x H', (Itt K a).yld i H x H' → body x H' Nx) := by
  refine ⟨fun i m H => m = xs.length - i ∧ i ≤ xs.length ∧ Pv i H, ⟨xs.length, by simp, Nat.zero_le _, h0⟩, ?_⟩
  rintro i m H ⟨rfl, hi, p⟩
  have q := hl i H hi p
  by_cases hlt : i < xs.length
  · refine .inr ⟨⟨xs, xs[i], q, by simp [hlt]⟩, Pv (i + 1), fun H' p' => ⟨xs.length - (i + 1), by omega, rfl, hlt, p'⟩, fun x H' y => ?_⟩
    obtain ⟨rfl, y⟩ := y
    exact hs i x _ (y xs q) p
  · have e : i = xs.length := by omega
    subst e
    exact .inl ⟨⟨xs, q, Nat.le_refl _⟩, hd H p⟩
/-- how many pairs stand the other way round by rk -/
def cntLt (rk : Str → Nat) (a : Str) (l : List Str) : Nat := (l.filter fun b => decide (rk b < rk a)).length
def invsN (rk : Str → Nat) (xs : List Str) (n : Nat) : Nat := ((List.range n).map fun k => cntLt rk (xs.getD k default) (xs.drop (k + 1))).sum
def invs (rk : Str → Nat) (xs : List Str) : Nat := invsN rk xs xs.length
theorem invsN_succ (rk : Str → Nat) (xs : List Str) (n : Nat) : invsN rk xs (n + 1) = invsN rk xs n + cntLt rk (xs.getD n default) (xs.drop (n + 1)) := by
  unfold invsN
  rw [List.range_succ, List.map_append, List.sum_append]
  simp
theorem cntLt_le (rk : Str → Nat) (a : Str) (l : List Str) : cntLt rk a l ≤ l.length := List.length_filter_le _ _
theorem invsN_le (rk : Str → Nat) (xs : List Str) : ∀ n, invsN rk xs n ≤ n * xs.length
  | 0 => by simp [invsN]
  | n + 1 => by
    rw [invsN_succ, Nat.succ_mul]
    have := invsN_le rk xs n
    have h2 := cntLt_le rk (xs.getD n default) (xs.drop (n + 1))
    rw [List.length_drop] at h2
    omega
def prD (p : Str × Str) : PyData := .tuple [.str p.1, .str p.2]
theorem dpAll_snoc {K : PySem.W.Frag} {H : Hp} : ∀ {vs : List V} {ds : List PyData} {v : V} {d : PyData}, DpAll K H vs ds → Dp K H v d → DpAll K H (vs ++ [v]) (ds ++ [d])
  | _, _, _, _, .nil, h => .cons h .nil
  | _, _, _, _, .cons h t, h' => .cons h (dpAll_snoc t h')
theorem prs_alike (ps : List (Str × Str)) : AllAlike (ps.map prD) := AllAlike.of fun b b' => by
  unfold prD
  simp [PySem.W.alike, PySem.W.alikeAll]
theorem prs_sortable (ps : List (Str × Str)) : Sortable (ps.map prD) := Sortable.tuples fun b => ⟨_, _, rfl⟩
theorem prs_depth (ps : List (Str × Str)) : ∀ d ∈ ps.map prD, d.depth ≤ 60 := by
  intro d hd
  obtain ⟨p, _, rfl⟩ := List.mem_map.mp hd
  unfold prD
  simp [PyData.depth, PyData.depthAll]
def PrAt (H : Hp) (v : V) : Prop := ∃ (T : Addr) (p : Str × Str), v = .ref T ∧ H T = some (.tup [.str p.1, .str p.2])
def PrsAt (H : Hp) (D : Addr) (m : Nat) : Prop := ∃ acc : List V, H D = some (.lst acc) ∧ (∀ v ∈ acc, PrAt H v) ∧ acc.length = m
theorem rd_ne {H : Hp} {b D : Addr} {acc xs : List V} (hD : H D = some (.lst acc)) (h : Rd H b (.tup xs)) : b ≠ D := fun z => by
  subst z
  rcases h with h | ⟨o, h⟩
  · rw [hD] at h; cases h
  · rw [hD] at h; cases h
theorem PrAt.same {H H' : Hp} {v : V} (k : Same H H') (h : PrAt H v) : PrAt H' v := by
  obtain ⟨T, p, e, h⟩ := h
  exact ⟨T, p, e, k _ _ h⟩
theorem PrAt.mut {H : Hp} {v : V} {D : Addr} {acc acc' : List V} (hD : H D = some (.lst acc)) (h : PrAt H v) : PrAt (upd H D (.lst acc')) v := by
  obtain ⟨T, p, e, h⟩ := h
  refine ⟨T, p, e, ?_⟩
  rw [upd_ne (fun z => by rw [z, hD] at h; cases h)]
  exact h
theorem PrsAt.same {H H' : Hp} {D : Addr} {m : Nat} (k : Same H H') (h : PrsAt H D m) : PrsAt H' D m := by
  obtain ⟨acc, h1, h2, h3⟩ := h
  exact ⟨acc, k _ _ h1, fun v hv => (h2 v hv).same k, h3⟩
theorem PrsAt.snoc {H : Hp} {D T : Addr} {m : Nat} {a b : Str} (hT : H T = none) (hm : m ≤ 1000) (h : PrsAt H D m) : ∃ acc, upd H T (.tup [.str a, .str b]) D = some (.lst acc) ∧ acc.length < sizeLine ∧ PrsAt (upd (upd H T (.tup [.str a, .str b])) D (.lst (acc ++ [.ref T]))) D (m + 1) := by
  obtain ⟨acc, h1, h2, h3⟩ := h.same (same_new (o := .tup [.str a, .str b]) hT)
  refine ⟨acc, h1, small1000 (by omega), acc ++ [.ref T], upd_same, fun v hv => ?_, by rw [List.length_append, h3]; rfl⟩
  rcases List.mem_append.mp hv with z | z
  · exact (h2 v z).mut h1
  · rw [List.mem_singleton.mp z]
    exact PrAt.mut h1 ⟨T, (a, b), rfl, upd_same⟩
theorem prs_data {K : PySem.W.Frag} {H : Hp} : ∀ {acc : List V}, (∀ v ∈ acc, PrAt H v) → ∃ ps : List (Str × Str), DpAll K H acc (ps.map prD)
  | [], _ => ⟨[], .nil⟩
  | v :: acc, h => by
    obtain ⟨ps, hp⟩ := prs_data (K := K) fun u hu => h u (List.mem_cons_of_mem _ hu)
    obtain ⟨T, p, rfl, hT⟩ := h v List.mem_cons_self
    exact ⟨p :: ps, .cons (.tup (.inl (.inl hT)) (.cons (.str _) (.cons (.str _) .nil))) hp⟩
theorem prs_sorted {K : PySem.W.Frag} {H : Hp} {D : Addr} {m : Nat} {Q : VK} (h : PrsAt H D m) (k : ∀ b zs, H b = none → zs.length = m → Q (.ref b) (upd H b (.lst zs))) : rSortedD K [.ref D] H Q := by
  obtain ⟨acc, h1, h2, h3⟩ := h
  obtain ⟨ps, hp⟩ := prs_data (K := K) h2
  exact ⟨D, acc, ps.map prD, rfl, SqL.of h1, hp, prs_alike ps, prs_sortable ps, prs_depth ps, fun ys b hy _ hb => k b ys hb (by rw [hy.length_eq, h3])⟩
section
variable {P : Program} {w : World} {K : PySem.W.Frag} {mg : Str → Option Value} {base : Heap}
theorem scPairs : FnScope ["one", "other", "spots", "pairs", "k", "hand", "a", "b"] ["one", "other"] (defScope sPairs) := ⟨rfl, rfl, rfl, by decide +kernel, rfl, by decide +kernel, by decide +kernel⟩
def spPairs : Sp := fun vs H Q _ => ∃ (r g : Addr) (xs ys : List Str), vs = [.ref r, .ref g] ∧ Rd H r (.tup (xs.map V.str)) ∧ Rd H g (.tup (ys.map V.str)) ∧ xs.length ≤ 30 ∧ ys.length ≤ 30 ∧ ys.Nodup ∧ (∀ x ∈ xs, x ∈ ys) ∧
  ∀ b H' zs, Same H H' → H' b = some (.lst zs) → zs.length = invs (fun x => ys.idxOf x) xs → Q (.ref b) H'
theorem ok_pairs {f : Addr} {fd : FuncData} (F : Fun K "turned_pairs" "turned_pairs" sPairs f fd) (B : Blt2 mg) : FnOk P w K mg base CX0 1 f fd ["one", "other"] spPairs := by
  refine F.ok scPairs (fun vs H Q E h => ?_) (fun cdv A outer s H vs Q E hr h => ?_)
  · obtain ⟨r, g, xs, ys, rfl, _⟩ := h
    rfl
  · obtain ⟨r, g, xs, ys, rfl, hrx, hgx, hl, hl2, nds, hin, k⟩ := h
    have nd := scPairs.nd
    have hu := hu_of hr
    refine ⟨_, pss_cons (ps_set (i := 2) nd rfl (.inr rfl) (pe_dc (own := [("k", 4), ("hand", 5)]) (tt := tYes) rfl nd (pi_enumT (by rfl) B.enum (pa_cons (pv 1) pa_nil)) (blkOk_by (N := ["one", "other", "spots", "pairs", "k", "hand", "a", "b"]) (sc := defScope sPairs) (by decide +kernel))
        (g := gTup K 2 (gCons (gName 4) (gCons (gName 5) gNil))) (fun _ _ _ _ _ => pg_tup rfl (pgs_cons (pg_name (i := 4) nd rfl (Or.inl rfl)) (pgs_cons (pg_name (i := 5) nd rfl (Or.inl rfl)) pgs_nil))) (fun _ _ _ _ _ => pts_nil) (fun _ _ _ _ _ => pv 5) (fun _ _ _ _ _ => pv 4)))
      (pss_cons (ps_setLc2 (i := 3) (own := [("k", 4), ("a", 6), ("b", 7)]) (vs1 := [7]) (tt := tYes) (wi1 := iTup K (tSl (rSlA K) (tVar 0) (tPart (tOp (rI0 fun i j => .int (i + j)) (tVar 4) (tC (.int 1)))) tNoPart)) rfl nd rfl rfl (by rfl) (pi_enumT (by rfl) B.enum (pa_cons (pv 0) pa_nil)) (blkOk_by (N := ["one", "other", "spots", "pairs", "k", "hand", "a", "b"]) (sc := defScope sPairs) (by decide +kernel)) (by decide)
        (g := gTup K 2 (gCons (gName 4) (gCons (gName 6) gNil))) (fun _ _ _ _ _ => pg_tup rfl (pgs_cons (pg_name (i := 4) nd rfl (Or.inl rfl)) (pgs_cons (pg_name (i := 6) nd rfl (Or.inl rfl)) pgs_nil))) (fun _ _ _ _ _ => pts_nil)
        (fun _ _ _ _ _ => pi_tup (pe_slice sl_tupA (pv 0) (po_some (pe_op op_add (pv 4) pe_int)) po_none)) (fun _ _ _ _ _ => pg_name (i := 7) nd rfl (Or.inl rfl))
        (fun _ _ _ _ _ => pts_one (pt_cmpR op_lt (pe_dget hu (pv 2) (pv 7) (fun _ _ => rfl)) (pe_dget hu (pv 2) (pv 6) (fun _ _ => rfl)) (nomark _)))
        (fun _ _ _ _ _ => pe_tup (pa_cons (pv 6) (pa_cons (pv 7) pa_nil))))
      (pss_one (ps_ret (pe_callB (cr_sortedD hr.units) (by rfl) B.sorted (by decide +kernel) (pa_cons (pv 3) pa_nil))))), ?_⟩
    refine ⟨_, rfl, g, ys.map V.str, rfl, .inl hgx, fun D hD => ?_⟩
    refine dc_enumT (K := K) (a := g) (xs := ys.map V.str) (fun i H' => Same H H' ∧ SpotsN H' D ys i) ⟨same_new hD, SpotsN.start⟩ (fun i H' _ p => .inl (rd_same p.1 hgx)) ?_ ?_
    · rintro i x H' T hx ⟨p1, p2⟩ hT
      obtain ⟨y, hy, rfl, _⟩ := str_at hx
      obtain ⟨kvs, e1, e2, e3⟩ := (p2.same (same_new (o := .tup [.int (i : Nat), .str y]) hT)).put nds hy (by have := (List.getElem?_eq_some_iff.mp hy).1; omega)
      refine ⟨T, [.int (i : Nat), .str y], rfl, .inl (.inl upd_same), rfl, _, _, rfl, _, _, rfl, rfl, rfl, ?_⟩
      exact ⟨_, rfl, _, rfl, kvs, Sum.inr y, rfl, e1, e2, same_mut (p1.trans (same_new hT)) hD, e3⟩
    · rintro H1 ⟨s1, q⟩
      rw [List.length_map] at q
      refine ⟨_, rfl, r, xs.map V.str, rfl, .inl (rd_same s1 hrx), fun D0 hD0 => ?_⟩
      have hD0H : H D0 = none := none_of s1 hD0
      refine out_enumT (K := K) (a := r) (xs := xs.map V.str) (fun i H2 => Same H1 H2 ∧ PrsAt H2 D0 (invsN (fun x => ys.idxOf x) xs i)) ⟨same_new hD0, [], upd_same, by simp, rfl⟩ (fun i H' _ p => .inl (rd_same (s1.trans p.1) hrx)) ?_ ?_
      · rintro i x H2 T hx ⟨p1, p2⟩ hT
        obtain ⟨a, ha, rfl, _⟩ := str_at hx
        have hil := (List.getElem?_eq_some_iff.mp ha).1
        have p3 : Same H1 (upd H2 T (.tup [.int (i : Nat), .str a])) := p1.trans (same_new hT)
        refine ⟨T, [.int (i : Nat), .str a], rfl, .inl (.inl upd_same), rfl, _, _, rfl, _, _, rfl, rfl, rfl, ?_⟩
        have e1 : ((i : Int) + 1) = ((i + 1 : Nat) : Int) := by omega
        refine ⟨_, rfl, _, rfl, _, _, rfl, rfl, _, rfl, ?_⟩
        dsimp only [tNoPart]
        refine slA (rd_same (s1.trans p3) hrx) fun b H4 s4 e4 => ?_
        rw [e1, cutV_from (by rw [List.length_map]; omega), ← List.map_drop] at e4
        refine ⟨b, rfl, ⟨_, .inl e4⟩, ?_⟩
        have p4 := p3.trans s4
        refine out_tup (K := K) (a := b) (xs := (xs.drop (i + 1)).map V.str) (fun j H5 => Same H1 H5 ∧ Rd H5 b (.tup ((xs.drop (i + 1)).map V.str)) ∧ PrsAt H5 D0 (invsN (fun x => ys.idxOf x) xs i + cntLt (fun x => ys.idxOf x) a ((xs.drop (i + 1)).take j))) ⟨p4, e4, ?_⟩ (fun j H5 _ p => .inl p.2.1) ?_ ?_
        · exact (p2.same (same_new hT)).same s4
        · rintro j x H5 hx ⟨p5, eb, p6⟩
          obtain ⟨b', hb, rfl, _⟩ := str_at hx
          have hjl := (List.getElem?_eq_some_iff.mp hb).1
          rw [List.length_drop] at hjl
          have mb : b' ∈ xs := List.mem_of_mem_drop (List.mem_of_getElem? hb)
          have sp := q.same p5
          have et : (xs.drop (i + 1)).take (j + 1) = (xs.drop (i + 1)).take j ++ [b'] := by rw [List.take_succ, hb]; rfl
          have ec : decide (((ys.idxOf b' : Nat) : Int) < ((ys.idxOf a : Nat) : Int)) = decide (ys.idxOf b' < ys.idxOf a) := by simp
          have hle := invsN_le (fun x => ys.idxOf x) xs i
          have hle2 := cntLt_le (fun x => ys.idxOf x) a ((xs.drop (i + 1)).take j)
          rw [List.length_take] at hle2
          have hmul : i * xs.length ≤ 30 * 30 := Nat.mul_le_mul (by omega) hl
          refine ⟨rfl, _, rfl, _, rfl, D, _, rfl, spots_get sp (idx_at (hin _ mb)), _, rfl, _, rfl, D, _, rfl, spots_get sp (idx_at (hin _ (List.mem_of_getElem? ha))), _, _, rfl, rfl, _, rfl, ?_⟩
          rw [ec]
          by_cases c : ys.idxOf b' < ys.idxOf a
          · have en : cntLt (fun x => ys.idxOf x) a ((xs.drop (i + 1)).take (j + 1)) = cntLt (fun x => ys.idxOf x) a ((xs.drop (i + 1)).take j) + 1 := by
              rw [et]
              unfold cntLt
              rw [List.filter_append, List.length_append, List.filter_cons, decide_eq_true c]
              rfl
            rw [decide_eq_true c, en]
            refine iteT ⟨_, rfl, _, rfl, by simp [sizeLine_eq], fun T2 hT2 => ?_⟩
            obtain ⟨acc, z1, z2, z3⟩ := p6.snoc (a := a) (b := b') hT2 (by omega)
            refine ⟨acc, z1, z2, same_mut (p5.trans (same_new hT2)) hD0, ?_, ?_⟩
            · obtain ⟨ac, w1, _⟩ := p6
              exact rd_eq (upd_ne (rd_ne w1 eb)) (rd_same (same_new hT2) eb)
            · exact z3
          · have en : cntLt (fun x => ys.idxOf x) a ((xs.drop (i + 1)).take (j + 1)) = cntLt (fun x => ys.idxOf x) a ((xs.drop (i + 1)).take j) := by
              rw [et]
              unfold cntLt
              rw [List.filter_append, List.length_append, List.filter_cons, decide_eq_false c]
              rfl
            rw [decide_eq_false c, en]
            exact iteF ⟨p5, eb, p6⟩
        · rintro H5 ⟨p5, eb, p6⟩
          rw [List.length_map, List.take_length] at p6
          refine ⟨p5, ?_⟩
          rw [invsN_succ, show xs.getD i default = a by rw [List.getD_eq_getElem?_getD, ha]; rfl]
          exact p6
      · rintro H2 ⟨p1, p2⟩
        rw [List.length_map] at p2
        dsimp only [tRet, tCB, tCons, tVar, tNil]
        refine ⟨_, rfl, ?_⟩
        exact prs_sorted p2 fun b zs hb hz => k b _ zs ((s1.trans p1).trans (same_new hb)) upd_same hz
end
end Ah
set_option Elab.async false
set_option linter.all false
set_option maxRecDepth 100000
set_option maxHeartbeats 4000000
namespace Ah
open PySem PySem.Spec PyProof.Rows L2
theorem newF {H : Hp} {xs : List V} {Q : VK} (k : ∀ b H', Same H H' → Ftp H' b xs → Q (.ref b) H') : NewF H xs Q := fun p o d hp => k p _ (same_new hp) ⟨o, d, upd_same⟩
theorem ftp_kp {p a : Addr} {xs : List V} {H H' : Hp} (k : Kp p H H') {kvs : List (Key × V)} (hp : H p = some (.dK kvs)) (h : Ftp H a xs) : Ftp H' a xs := by
  obtain ⟨o, d, h⟩ := h
  refine ⟨o, d, k a _ (fun e => ?_) h⟩
  rw [e, hp] at h
  cases h
theorem catF {K : PySem.W.Frag} {H : Hp} {a b : Addr} {xs ys : List V} {Q : VK} (ha : Rd H a (.tup xs)) (hb : Rd H b (.tup ys)) (h1 : xs = [] → Ftp H b ys) (h2 : ys = [] → Ftp H a xs) (hz : xs.length + ys.length ≤ 1000) (k : ∀ c H', Same H H' → Ftp H' c (xs ++ ys) → Q (.ref c) H') : rCatF K (.ref a) (.ref b) H Q := by
  refine ⟨a, b, xs, ys, rfl, rfl, .inl ha, .inl hb, Nat.le_of_lt (small1000 hz), fun e => ?_, fun _ e => ?_, fun _ _ => newF k⟩
  · have := h1 e
    subst e
    exact k b H (Same.refl H) this
  · have := h2 e
    subst e
    exact k a H (Same.refl H) (by rw [List.append_nil]; exact this)
theorem perm_map_inv {α β : Type} {f : α → β} {l ys : List β} (h : ys.Perm l) : ∀ {xs : List α}, l = xs.map f → ∃ zs : List α, zs.Perm xs ∧ ys = zs.map f := by
  induction h with
  | nil =>
    intro xs e
    cases xs with
    | nil => exact ⟨[], .nil, rfl⟩
    | cons _ _ => cases e
  | cons x _ ih =>
    intro xs e
    cases xs with
    | nil => cases e
    | cons a r =>
      obtain ⟨rfl, e2⟩ := List.cons.inj e
      obtain ⟨zs, h1, h2⟩ := ih e2
      exact ⟨a :: zs, h1.cons a, by rw [List.map_cons, h2]⟩
  | swap x y l =>
    intro xs e
    cases xs with
    | nil => cases e
    | cons a r =>
      obtain ⟨rfl, e2⟩ := List.cons.inj e
      cases r with
      | nil => cases e2
      | cons b t =>
        obtain ⟨rfl, rfl⟩ := List.cons.inj e2
        exact ⟨b :: a :: t, List.Perm.swap a b t, rfl⟩
  | trans _ _ ih1 ih2 =>
    intro xs e
    obtain ⟨zs, h1, h2⟩ := ih2 e
    obtain ⟨ws, h3, h4⟩ := ih1 h2
    exact ⟨ws, h3.trans h1, h4⟩
theorem exch_perm {α : Type} {l : List α} {p : Nat} (h : p + 1 < l.length) : (exch l p).Perm l := by
  have e : l = l.take p ++ ((l.drop p).take 1 ++ (l.drop (p + 1)).take 1) ++ l.drop (p + 2) := by
    conv => lhs; rw [← List.take_append_drop p l]
    rw [List.append_assoc]
    congr 1
    conv => lhs; rw [← List.take_append_drop 1 (l.drop p)]
    rw [List.append_assoc]
    congr 1
    rw [List.drop_drop, show p + 1 = p + 1 from rfl]
    conv => lhs; rw [← List.take_append_drop 1 (l.drop (p + 1))]
    rw [List.drop_drop]
  conv => rhs; rw [e]
  unfold exch
  exact List.Perm.append_right _ (List.Perm.append_left _ List.perm_append_comm)
abbrev sLawRow : Stmt := topS 24
section
variable {P : Program} {w : World} {K : PySem.W.Frag} {mg : Str → Option Value} {base : Heap}
def spExchF : Sp := fun vs H Q _ => ∃ (r : Addr) (p : Nat) (xs : List Str), vs = [.ref r, .int p] ∧ Rd H r (.tup (xs.map V.str)) ∧ p + 1 < xs.length ∧ xs.length ≤ 1000 ∧ ∀ b H', Same H H' → Ftp H' b ((exch xs p).map V.str) → Q (.ref b) H'
theorem ok_lawExF {f : Addr} {fd : FuncData} (F : Fun K "_law_changed" "_law_changed" sLawEx f fd) : FnOk P w K mg base CX0 1 f fd ["row", "place"] spExchF := by
  refine F.ok scLawEx (fun vs H Q E h => ?_) (fun cdv A outer s H vs Q E hr h => ?_)
  · obtain ⟨r, p, xs, rfl, _⟩ := h
    rfl
  · obtain ⟨r, p, xs, rfl, hr, hp, hl, k⟩ := h
    refine ⟨_, pss_one (ps_ret (pe_op op_catF (pe_op op_catF (pe_slice sl_tupA (pv 0) po_none (po_some (pv 1))) (pe_tupF (pa_cons (pe_ix ix_tup (pv 0) (pe_op op_add (pv 1) pe_int) (fun _ _ => rfl)) (pa_cons (pe_ix ix_tup (pv 0) (pv 1) (fun _ _ => rfl)) pa_nil))))
      (pe_slice sl_tupA (pv 0) (po_some (pe_op op_add (pv 1) pe_int)) po_none))), ?_⟩
    have lm : (xs.map V.str).length = xs.length := List.length_map ..
    have e2 : ((p : Int) + 2) = ((p + 2 : Nat) : Int) := rfl
    refine ⟨_, rfl, _, rfl, _, rfl, ?_⟩
    dsimp only [tNoPart]
    refine slA hr fun b1 H1 s1 e1 => ?_
    have r1 := rd_same s1 hr
    refine ⟨_, rfl, _, rfl, _, _, rfl, rfl, r, xs.map V.str, ((p + 1 : Nat) : Int), (xs.map V.str)[p + 1]'(by omega), rfl, rfl, .inl r1, atI_nat (List.getElem?_eq_getElem _), ?_⟩
    refine ⟨_, rfl, _, rfl, r, xs.map V.str, (p : Int), (xs.map V.str)[p]'(by omega), rfl, rfl, .inl r1, atI_nat (List.getElem?_eq_getElem _), ?_⟩
    refine ⟨by simp [sizeLine_eq], newF fun b2 H2 s2 f2 => ?_⟩
    have lt : (cutV (xs.map V.str) none (some (p : Int))).length = p := by
      rw [cutV_to (by omega), List.length_take]
      omega
    refine catF (K := K) (rd_same s2 e1) f2.rd (fun _ => f2) (fun z => by cases z) ?_ fun b3 H3 s3 f3 => ?_
    · rw [lt]
      show p + 2 ≤ 1000
      omega
    have s13 := s2.trans s3
    refine ⟨_, rfl, _, rfl, _, _, rfl, rfl, _, rfl, ?_⟩
    dsimp only [tNoPart]
    refine slA (rd_same s13 r1) fun b4 H4 s4 e4 => ?_
    refine catF (K := K) (rd_same s4 f3.rd) e4 (fun z => ?_) (fun _ => f3.same s4) ?_ fun b5 H5 s5 f5 => ?_
    · have := congrArg List.length z
      rw [List.length_append] at this
      have h0 : ([(xs.map V.str)[p + 1]'(by omega), (xs.map V.str)[p]'(by omega)] : List V).length = 2 := rfl
      exact absurd this (by show ¬ (_ + 2 = 0); omega)
    · rw [e2, cutV_from (by omega), List.length_append, lt, List.length_drop]
      show p + 2 + _ ≤ 1000
      omega
    refine k b5 H5 (s1.trans (s13.trans (s4.trans s5))) ?_
    have em : cutV (xs.map V.str) none (some (p : Int)) ++ [(xs.map V.str)[p + 1]'(by omega), (xs.map V.str)[p]'(by omega)] ++ cutV (xs.map V.str) (some ((p : Int) + 2)) none = (exch xs p).map V.str := by
      rw [e2, cutV_from (by omega), cutV_to (by omega), ← exch_map]
      unfold exch
      rw [drop_one (List.getElem?_eq_getElem (show p + 1 < (xs.map V.str).length by omega)), drop_one (List.getElem?_eq_getElem (show p < (xs.map V.str).length by omega))]
      rfl
    exact em ▸ f5
theorem scLawRow : FnScope ["pen", "hands"] ["pen", "hands"] (defScope sLawRow) := ⟨rfl, rfl, rfl, by decide +kernel, rfl, by decide +kernel, by decide +kernel⟩
def spLawRow : Sp := fun vs H Q _ => ∃ (p c a : Addr) (xs : List Str) (n : Nat), vs = [.ref p, .ref a] ∧ LTu H a (xs.map V.str) ∧ (∀ x ∈ xs, IsHand x) ∧ xs.length ≤ 60 ∧ PenAt H p c n ∧ n + 60 < 1000000 ∧
  ∀ (b : Addr) (ys : List Str) (H' : Hp), ys.Perm xs → Ftp H' b (ys.map V.str) → PenAt H' p c (n + xs.length) → Kp p H H' → Q (.ref b) H'
theorem ok_lawRow {f f1 : Addr} {fd fd1 : FuncData} (F : Fun K "_law_row" "_law_row" sLawRow f fd) (B : Blt2 mg) (D : Df P w K mg base CX0 "_law_shuffled" 2 f1 fd1 ["pen", "some"] (spShuf K)) : FnOk P w K mg base CX0 3 f fd ["pen", "hands"] spLawRow := by
  refine F.ok scLawRow (fun vs H Q E h => ?_) (fun cdv A outer s H vs Q E hr h => ?_)
  · obtain ⟨p, c, a, xs, n, rfl, _⟩ := h
    rfl
  · obtain ⟨p, c, a, xs, n, rfl, ha, hh, hl, hp, hn, k⟩ := h
    refine ⟨_, pss_one (ps_ret (pe_callTy call_tuple_ofF (by rfl) B.tuple (by decide +kernel) (pa_cons (pe_call D.ok hr rfl D.g D.kp D.b .nil pass0 (pa_cons (pv 0) (pa_cons (pe_callB cr_sortedTS (by rfl) B.sorted (by decide +kernel) (pa_cons (pv 1) pa_nil)) pa_nil))) pa_nil))), ?_⟩
    refine ⟨_, rfl, _, rfl, a, xs, rfl, ha.sq, by omega, fun ys s py sy hs => ?_⟩
    have hy : ∀ y ∈ ys, IsHand y := fun y z => hh y (py.mem_iff.mp z)
    refine ⟨p, c, s, ys.map V.str, ys.map PyData.str, n, rfl, .inl (SqL.of upd_same), dp_strs ys, fun d hd => ?_, ?_, hp.keep (same_new hs), ?_, fun q zs H2 pz hq eq hp2 kp2 => ?_⟩
    · obtain ⟨y, z, rfl⟩ := List.mem_map.mp hd
      exact shp_str (hy y z).ok
    · rw [List.length_map, py.length_eq]
      omega
    · rw [List.length_map, py.length_eq]
      omega
    obtain ⟨ws, pw, rfl⟩ := perm_map_inv pz rfl
    refine ⟨q, ws.map V.str, rfl, SqL.of eq, newF fun b H3 s3 f3 => ?_⟩
    rw [List.length_map, py.length_eq] at hp2
    exact k b ws H3 (pw.trans py) f3 (hp2.keep s3) ((Kp.new hs).trans (kp2.trans (Kp.same s3)))
end
end Ah
set_option Elab.async false
set_option linter.all false
set_option maxRecDepth 100000
set_option maxHeartbeats 4000000
namespace Ah
open PySem PySem.Spec PyProof.Rows L2
abbrev sLawTurned : Stmt := topS 23
theorem idx_first {ys : List Str} {x : Str} (nd : ys.Nodup) (h : x ∈ ys) : ∀ m, m < ys.idxOf x → ys[m]? ≠ some x := by
  intro m hm e
  have hl := List.idxOf_lt_length_of_mem h
  obtain ⟨h1, h2⟩ := List.getElem?_eq_some_iff.mp e
  obtain ⟨h3, h4⟩ := List.getElem?_eq_some_iff.mp (idx_at h)
  have := nd_inj nd h1 h3 (by rw [h2, h4])
  omega
theorem PrsAt.app {H : Hp} {F D : Addr} {m n : Nat} (h : PrsAt H F m) (h' : PrsAt H D n) (hz : m + n ≤ 1000) : ∃ acc acc' : List V, H F = some (.lst acc) ∧ H D = some (.lst acc') ∧ acc.length + acc'.length ≤ sizeLine ∧ PrsAt (upd H F (.lst (acc ++ acc'))) F (m + n) := by
  obtain ⟨acc, h1, h2, h3⟩ := h
  obtain ⟨acc', g1, g2, g3⟩ := h'
  refine ⟨acc, acc', h1, g1, Nat.le_of_lt (small1000 (by omega)), acc ++ acc', upd_same, fun v hv => ?_, by rw [List.length_append, h3, g3]⟩
  rcases List.mem_append.mp hv with z | z
  · exact (h2 v z).mut h1
  · exact (g2 v z).mut h1
section
variable {P : Program} {w : World} {K : PySem.W.Frag} {mg : Str → Option Value} {base : Heap}
theorem scLawTurned : FnScope ["one", "other", "found", "k", "hand"] ["one", "other"] (defScope sLawTurned) := ⟨rfl, rfl, rfl, by decide +kernel, rfl, by decide +kernel, by decide +kernel⟩
def spLawTurned : Sp := fun vs H Q _ => ∃ (r g : Addr) (xs ys : List Str), vs = [.ref r, .ref g] ∧ Rd H r (.tup (xs.map V.str)) ∧ Ftp H g (ys.map V.str) ∧ xs.length ≤ 30 ∧ ys.length ≤ 30 ∧ ys.Nodup ∧ (∀ x ∈ xs, x ∈ ys) ∧
  ∀ (b : Addr) (H' : Hp) (zs : List V), Same H H' → H' b = some (.lst zs) → zs.length = invs (fun x => ys.idxOf x) xs → Q (.ref b) H'
theorem ok_lawTurned {f : Addr} {fd : FuncData} (F : Fun K "_law_turned" "_law_turned" sLawTurned f fd) (B : Blt2 mg) : FnOk P w K mg base CX0 1 f fd ["one", "other"] spLawTurned := by
  refine F.ok scLawTurned (fun vs H Q E h => ?_) (fun cdv A outer s H vs Q E hr h => ?_)
  · obtain ⟨r, g, xs, ys, rfl, _⟩ := h
    rfl
  · obtain ⟨r, g, xs, ys, rfl, hrx, hgx, hl, hl2, nds, hin, k⟩ := h
    have nd := scLawTurned.nd
    refine ⟨_, pss_cons (ps_set (i := 2) nd rfl (.inl rfl) (pe_lst pa_nil))
      (pss_cons (ps_for PassesOwn.never rfl (pi_range1 rfl B.range (pa_cons (pe_callB call_len_seq (by rfl) B.len PySem.boot_len (pa_cons (pv 0) pa_nil)) pa_nil)) (pg_name (i := 3) nd rfl (.inr rfl))
        (pss_one (ps_expr (pe_bm PySem.F.plainAttrs_list PySem.F.slot_list_extend PySem.F.type_list_extend mt_extend (pv 2) (pa_cons (pe_lc (own := [("hand", 4)]) (g := gName 4) (tt := tTest (tOp (rI0 fun i j => .bl (decide (i < j))) (tTix K (tVar 1) (tCons (tVar 4) tNil)) (tTix K (tVar 1) (tCons (tOp (rIxT K) (tVar 0) (tVar 3)) tNil)))) rfl nd (pi_tup (pe_slice sl_tupA (pv 0) (po_some (pe_op op_add (pv 3) pe_int)) po_none))
          (blkOk_by (N := ["one", "other", "found", "k", "hand"]) (sc := defScope sLawTurned) (by decide +kernel)) (fun _ _ _ _ _ => pg_name (i := 4) nd rfl (Or.inl rfl))
          (fun _ _ _ _ _ => pts_one (pt_cmpR op_lt (pe_tix (pv 1) (pa_cons (pv 4) pa_nil)) (pe_tix (pv 1) (pa_cons (pe_ix (r := rIxT K) ix_tup (pv 0) (pv 3) (fun _ _ => rfl)) pa_nil)) (nomark _)))
          (fun _ _ _ _ _ => pe_tup (pa_cons (pe_ix (r := rIxT K) ix_tup (pv 0) (pv 3) (fun _ _ => rfl)) (pa_cons (pv 4) pa_nil)))) pa_nil)))))
      (pss_one (ps_ret (pe_callB (cr_sortedD hr.units) (by rfl) B.sorted (by decide +kernel) (pa_cons (pv 2) pa_nil))))), ?_⟩
    have lm : (xs.map V.str).length = xs.length := List.length_map ..
    refine ⟨Nat.zero_le _, fun L hL => ?_⟩
    refine ⟨_, rfl, r, xs.map V.str, rfl, .inr (.inl (rd_same (same_new hL) hrx)), _, rfl, by omega, by omega, ?_⟩
    rw [Int.toNat_natCast, lm]
    refine for_range (lo := 0) (n := xs.length) (fun i σ H2 => ∃ o3 : Option V, σ = [some (.ref r), some (.ref g), some (.ref L), o3, none] ∧ Same H H2 ∧ PrsAt H2 L (invsN (fun x => ys.idxOf x) xs i)) ⟨none, rfl, same_new hL, [], upd_same, by simp, rfl⟩ ?_ ?_
    · rintro i σ H2 hi ⟨o3, rfl, s2, p2⟩
      have e0 : (0 : Int) + (i : Int) = ((i : Nat) : Int) := by omega
      have e1 : (0 : Int) + (i : Int) + 1 = ((i + 1 : Nat) : Int) := by omega
      have ha : xs[i]? = some (xs.getD i default) := getD_at hi
      have hL2 : ∃ acc, H2 L = some (.lst acc) := let ⟨acc, h, _⟩ := p2; ⟨acc, h⟩
      obtain ⟨accL, hL2⟩ := hL2
      refine ⟨_, rfl, .inl ⟨rfl, _, SqL.of hL2⟩, _, rfl, _, rfl, _, _, rfl, rfl, _, rfl, ?_⟩
      dsimp only [tNoPart]
      refine slA (rd_same s2 hrx) fun b H4 s4 e4 => ?_
      rw [e1, cutV_from (by omega), ← List.map_drop] at e4
      refine ⟨b, rfl, ⟨_, .inl e4⟩, fun D0 hD0 => ?_⟩
      have a0 : atI (xs.map V.str) (0 + (i : Int)) = some (V.str (xs.getD i default)) := by
        rw [e0]
        exact atI_nat (by rw [List.getElem?_map, ha]; rfl)
      have ma := hin _ (List.mem_of_getElem? ha)
      refine out_tup (K := K) (a := b) (xs := (xs.drop (i + 1)).map V.str) (fun j H5 => Same H4 H5 ∧ PrsAt H5 D0 (cntLt (fun x => ys.idxOf x) (xs.getD i default) ((xs.drop (i + 1)).take j))) ⟨same_new hD0, [], upd_same, by simp, rfl⟩ (fun j H5 _ p => .inl (rd_same p.1 e4)) ?_ ?_
      · rintro j x H5 hx ⟨p5, p6⟩
        obtain ⟨b', hb, rfl, _⟩ := str_at hx
        have hjl := (List.getElem?_eq_some_iff.mp hb).1
        rw [List.length_drop] at hjl
        have mb : b' ∈ ys := hin _ (List.mem_of_mem_drop (List.mem_of_getElem? hb))
        have s5 := (s2.trans s4).trans p5
        have g5 := hgx.same s5
        have r5 := rd_same s5 hrx
        have et : (xs.drop (i + 1)).take (j + 1) = (xs.drop (i + 1)).take j ++ [b'] := by rw [List.take_succ, hb]; rfl
        have ec : decide (((ys.idxOf b' : Nat) : Int) < ((ys.idxOf (xs.getD i default) : Nat) : Int)) = decide (ys.idxOf b' < ys.idxOf (xs.getD i default)) := by simp
        have hle2 := cntLt_le (fun x => ys.idxOf x) (xs.getD i default) ((xs.drop (i + 1)).take j)
        rw [List.length_take] at hle2
        refine ⟨rfl, _, rfl, g, ys.map V.str, rfl, g5, _, rfl, ys, b', ys.idxOf b', rfl, .inl g5.rd, idx_at mb, idx_first nds mb, ?_⟩
        refine ⟨_, rfl, g, ys.map V.str, rfl, g5, _, rfl, _, rfl, r, xs.map V.str, _, _, rfl, rfl, .inl r5, a0, ys, xs.getD i default, ys.idxOf (xs.getD i default), rfl, .inl g5.rd, idx_at ma, idx_first nds ma, _, _, rfl, rfl, _, rfl, ?_⟩
        rw [ec]
        by_cases c : ys.idxOf b' < ys.idxOf (xs.getD i default)
        · have en : cntLt (fun x => ys.idxOf x) (xs.getD i default) ((xs.drop (i + 1)).take (j + 1)) = cntLt (fun x => ys.idxOf x) (xs.getD i default) ((xs.drop (i + 1)).take j) + 1 := by
            rw [et]
            unfold cntLt
            rw [List.filter_append, List.length_append, List.filter_cons, decide_eq_true c]
            rfl
          rw [decide_eq_true c, en]
          refine iteT ⟨_, rfl, _, rfl, r, xs.map V.str, _, _, rfl, rfl, .inl r5, a0, _, rfl, by simp [sizeLine_eq], fun T2 hT2 => ?_⟩
          obtain ⟨acc, z1, z2, z3⟩ := p6.snoc (a := xs.getD i default) (b := b') hT2 (by omega)
          exact ⟨acc, z1, z2, same_mut (p5.trans (same_new hT2)) hD0, z3⟩
        · have en : cntLt (fun x => ys.idxOf x) (xs.getD i default) ((xs.drop (i + 1)).take (j + 1)) = cntLt (fun x => ys.idxOf x) (xs.getD i default) ((xs.drop (i + 1)).take j) := by
            rw [et]
            unfold cntLt
            rw [List.filter_append, List.length_append, List.filter_cons, decide_eq_false c]
            rfl
          rw [decide_eq_false c, en]
          exact iteF ⟨p5, p6⟩
      · rintro H5 ⟨p5, p6⟩
        rw [List.length_map, List.take_length] at p6
        have hle := invsN_le (fun x => ys.idxOf x) xs i
        have hle2 := cntLt_le (fun x => ys.idxOf x) (xs.getD i default) (xs.drop (i + 1))
        rw [List.length_drop] at hle2
        have hmul : i * xs.length ≤ 30 * 30 := Nat.mul_le_mul (by omega) hl
        obtain ⟨acc, acc', q1, q2, q3, q4⟩ := (p2.same (s4.trans p5)).app p6 (by omega)
        refine ⟨L, D0, acc, acc', rfl, rfl, q1, q2, q3, _, rfl, same_mut ((s2.trans s4).trans p5) hL, ?_⟩
        rw [invsN_succ]
        exact q4
    · rintro σ H2 ⟨o3, rfl, s2, p2⟩
      dsimp only [tRet, tCB, tCons, tVar, tNil]
      refine ⟨_, rfl, ?_⟩
      exact prs_sorted p2 fun b zs hb hz => k b _ zs (s2.trans (same_new hb)) upd_same hz
end
end Ah
set_option Elab.async false
set_option linter.all false
set_option maxRecDepth 100000
set_option maxHeartbeats 2000000
/-! rows of unlike hands: how many pairs stand otherwise, and changes of neighbours -/
namespace Ah
open PySem PySem.Spec PyProof.Rows L2
def invR (rk : Str → Nat) : List Str → Nat
  | [] => 0
  | a :: r => cntLt rk a r + invR rk r
theorem invsN_cons (rk : Str → Nat) (a : Str) (r : List Str) : ∀ n, invsN rk (a :: r) (n + 1) = cntLt rk a r + invsN rk r n
  | 0 => by rw [invsN_succ]; simp [invsN]
  | n + 1 => by
    rw [invsN_succ, invsN_cons rk a r n, invsN_succ]
    have e1 : (a :: r).getD (n + 1) default = r.getD n default := by simp [List.getD_eq_getElem?_getD]
    rw [e1, List.drop_succ_cons, Nat.add_assoc]
theorem invs_eq (rk : Str → Nat) : ∀ xs, invs rk xs = invR rk xs
  | [] => rfl
  | a :: r => by
    show invsN rk (a :: r) (r.length + 1) = _
    rw [invsN_cons]
    show cntLt rk a r + invs rk r = _
    rw [invs_eq rk r]
    rfl
theorem cntLt_perm {rk : Str → Nat} {a : Str} {l l' : List Str} (h : l.Perm l') : cntLt rk a l = cntLt rk a l' := (h.filter _).length_eq
theorem cntLt_cons (rk : Str → Nat) (a b : Str) (l : List Str) : cntLt rk a (b :: l) = (if rk b < rk a then 1 else 0) + cntLt rk a l := by
  unfold cntLt
  rw [List.filter_cons]
  by_cases h : rk b < rk a
  · rw [if_pos (decide_eq_true h), if_pos h, List.length_cons, Nat.add_comm]
  · rw [if_neg (by simp [h]), if_neg h, Nat.zero_add]
theorem exch_cons {α : Type} (a : α) (l : List α) (p : Nat) : exch (a :: l) (p + 1) = a :: exch l p := by
  unfold exch
  simp
theorem exch_zero {α : Type} (a b : α) (l : List α) : exch (a :: b :: l) 0 = b :: a :: l := by
  unfold exch
  simp
/-- a change of two that stand the other way round: one pair less -/
theorem invs_exch {rk : Str → Nat} : ∀ {xs : List Str} {k : Nat}, k + 1 < xs.length → rk (xs.getD (k + 1) default) < rk (xs.getD k default) → invs rk (exch xs k) + 1 = invs rk xs
  | [], k, h, _ => by simp at h
  | [a], k, h, _ => by simp at h
  | a :: b :: t, 0, h, lt => by
    rw [exch_zero, invs_eq, invs_eq]
    have lt' : rk b < rk a := by simpa using lt
    show cntLt rk b (a :: t) + (cntLt rk a t + invR rk t) + 1 = cntLt rk a (b :: t) + (cntLt rk b t + invR rk t)
    rw [cntLt_cons, cntLt_cons, if_pos lt', if_neg (by omega)]
    omega
  | a :: b :: t, k + 1, h, lt => by
    have h' : k + 1 < (b :: t).length := by simpa using h
    have ih := invs_exch (rk := rk) (xs := b :: t) (k := k) h' (by simpa using lt)
    rw [exch_cons, invs_eq, invs_eq]
    rw [invs_eq, invs_eq] at ih
    show cntLt rk a (exch (b :: t) k) + invR rk (exch (b :: t) k) + 1 = cntLt rk a (b :: t) + invR rk (b :: t)
    rw [cntLt_perm (exch_perm h')]
    omega
theorem rising_of {f : Nat → Nat} {n : Nat} (h : ∀ k, k + 1 < n → f k ≤ f (k + 1)) : ∀ i j, i ≤ j → j < n → f i ≤ f j := by
  intro i j hij hj
  induction j with
  | zero => rw [Nat.le_zero.mp hij]; exact Nat.le_refl _
  | succ j ih =>
    rcases Nat.le_succ_iff.mp hij with h1 | h1
    · exact Nat.le_trans (ih h1 (by omega)) (h j hj)
    · rw [h1]; exact Nat.le_refl _
theorem pair_of {xs : List Str} {R : Str → Str → Prop} (h : ∀ i j, i < j → j < xs.length → R (xs.getD i default) (xs.getD j default)) : xs.Pairwise R := by
  rw [List.pairwise_iff_getElem]
  intro i j hi hj hij
  have := h i j hij hj
  rw [List.getD_eq_getElem?_getD, List.getElem?_eq_getElem hi, List.getD_eq_getElem?_getD, List.getElem?_eq_getElem hj] at this
  exact this
/-- no two neighbours the other way round: the row itself -/
theorem row_of {xs ys : List Str} (pm : xs.Perm ys) (nd : ys.Nodup) (h : ∀ k, k + 1 < xs.length → ¬ ys.idxOf (xs.getD (k + 1) default) < ys.idxOf (xs.getD k default)) : xs = ys := by
  have r1 := rising_of (f := fun k => ys.idxOf (xs.getD k default)) (n := xs.length) fun k hk => Nat.le_of_not_lt (h k hk)
  refine List.Perm.eq_of_pairwise (le := fun a b => ys.idxOf a ≤ ys.idxOf b) (fun a b ha hb h1 h2 => ?_) (pair_of fun i j hij hj => r1 i j (by omega) hj) (pair_of fun i j hij hj => ?_) pm
  · have hb' : b ∈ ys := hb
    have ha' : a ∈ ys := pm.mem_iff.mp ha
    have ea := idx_at ha'
    have eb := idx_at hb'
    rw [show ys.idxOf a = ys.idxOf b by omega, eb] at ea
    exact (Option.some.inj ea).symm
  · have hi : i < ys.length := by omega
    have e : ∀ m, m < ys.length → ys.idxOf (ys.getD m default) = m := fun m hm => by
      have g := getD_at (xs := ys) hm
      have mm := List.mem_of_getElem? g
      obtain ⟨a1, a2⟩ := List.getElem?_eq_some_iff.mp g
      obtain ⟨b1, b2⟩ := List.getElem?_eq_some_iff.mp (idx_at mm)
      exact nd_inj nd b1 a1 (by rw [a2, b2])
    rw [e i hi, e j hj]
    omega
def descs (xs ys : List Str) : List Nat := (List.range (xs.length - 1)).filter fun k => decide (ys.idxOf (xs.getD (k + 1) default) < ys.idxOf (xs.getD k default))
theorem descs_first {xs ys : List Str} (pm : xs.Perm ys) (nd : ys.Nodup) (ne : xs ≠ ys) : ∃ k r, descs xs ys = k :: r ∧ k + 1 < xs.length ∧ ys.idxOf (xs.getD (k + 1) default) < ys.idxOf (xs.getD k default) := by
  cases e : descs xs ys with
  | nil =>
    refine absurd (row_of pm nd fun k hk z => ?_) ne
    have : k ∈ descs xs ys := List.mem_filter.mpr ⟨List.mem_range.mpr (by omega), decide_eq_true z⟩
    rw [e] at this
    cases this
  | cons k r =>
    have m : k ∈ descs xs ys := by rw [e]; exact List.mem_cons_self
    obtain ⟨m1, m2⟩ := List.mem_filter.mp m
    have := List.mem_range.mp m1
    exact ⟨k, r, rfl, by omega, of_decide_eq_true m2⟩
theorem eqv_tups : ∀ (xs ys : List Str), PyData.eqv (.tuple (xs.map PyData.str)) (.tuple (ys.map PyData.str)) = decide (xs = ys)
  | [], [] => by simp [PyData.eqv, PyData.eqvAll]
  | [], _ :: _ => by simp [PyData.eqv, PyData.eqvAll]
  | _ :: _, [] => by simp [PyData.eqv, PyData.eqvAll]
  | x :: xs, y :: ys => by
    have ih := eqv_tups xs ys
    simp only [PyData.eqv] at ih
    simp only [PyData.eqv, PyData.eqvAll, List.map_cons, ih]
    by_cases h : x = y
    · subst h; simp
    · simp [h]
end Ah
set_option Elab.async false
set_option linter.all false
set_option maxRecDepth 100000
set_option maxHeartbeats 2000000
/-! how far two rows are: both ways alike, and no detour is shorter -/
namespace Ah
open PySem PySem.Spec PyProof.Rows L2
def sumOf {α : Type} (l : List α) (f : α → Nat) : Nat := (l.map f).sum
theorem sumOf_cons {α : Type} (a : α) (l : List α) (f : α → Nat) : sumOf (a :: l) f = f a + sumOf l f := by simp [sumOf]
theorem sumOf_perm {α : Type} {l l' : List α} (p : l.Perm l') (f : α → Nat) : sumOf l f = sumOf l' f := (p.map f).sum_nat
theorem sumOf_congr {α : Type} {f g : α → Nat} : ∀ {l : List α}, (∀ a ∈ l, f a = g a) → sumOf l f = sumOf l g
  | [], _ => rfl
  | a :: l, h => by rw [sumOf_cons, sumOf_cons, h a List.mem_cons_self, sumOf_congr fun b hb => h b (List.mem_cons_of_mem _ hb)]
theorem sumOf_add {α : Type} (f g : α → Nat) : ∀ l : List α, sumOf l (fun a => f a + g a) = sumOf l f + sumOf l g
  | [] => rfl
  | a :: l => by rw [sumOf_cons, sumOf_cons, sumOf_cons, sumOf_add f g l]; omega
theorem sumOf_zero {α : Type} : ∀ l : List α, sumOf l (fun _ => 0) = 0
  | [] => rfl
  | a :: l => by rw [sumOf_cons, sumOf_zero l]
theorem sumOf_comm {α β : Type} (f : α → β → Nat) (m : List β) : ∀ l : List α, sumOf l (fun a => sumOf m (f a)) = sumOf m fun b => sumOf l fun a => f a b
  | [] => (sumOf_zero m).symm
  | a :: l => by
    rw [sumOf_cons, sumOf_comm f m l, ← sumOf_add]
    exact sumOf_congr fun b _ => (sumOf_cons a l fun a => f a b).symm
def one? (c : Bool) : Nat := if c = true then 1 else 0
theorem cnt_sum (rk : Str → Nat) (a : Str) : ∀ l, cntLt rk a l = sumOf l fun b => one? (decide (rk b < rk a))
  | [] => rfl
  | b :: l => by
    rw [cntLt_cons, sumOf_cons, cnt_sum rk a l]
    unfold one?
    by_cases h : rk b < rk a <;> simp [h]
/-- by all pairs -/
theorem invR_sum (rk pl : Str → Nat) : ∀ {xs : List Str}, xs.Pairwise (fun a b => pl a < pl b) → invR rk xs = sumOf xs fun a => sumOf xs fun b => one? (decide (pl a < pl b ∧ rk b < rk a))
  | [], _ => rfl
  | x :: xs, h => by
    obtain ⟨h1, h2⟩ := List.pairwise_cons.mp h
    have ih := invR_sum rk pl h2
    rw [sumOf_cons]
    have e1 : sumOf (x :: xs) (fun b => one? (decide (pl x < pl b ∧ rk b < rk x))) = cntLt rk x xs := by
      rw [sumOf_cons, cnt_sum, show one? (decide (pl x < pl x ∧ rk x < rk x)) = 0 by simp [one?], Nat.zero_add]
      exact sumOf_congr fun b hb => by rw [show decide (pl x < pl b ∧ rk b < rk x) = decide (rk b < rk x) by simp [h1 b hb]]
    have e2 : sumOf xs (fun a => sumOf (x :: xs) fun b => one? (decide (pl a < pl b ∧ rk b < rk a))) = invR rk xs := by
      rw [ih]
      refine sumOf_congr fun a ha => ?_
      rw [sumOf_cons, show one? (decide (pl a < pl x ∧ rk x < rk a)) = 0 by have := h1 a ha; simp [one?]; omega, Nat.zero_add]
    rw [e1, e2]
    rfl
theorem idx_lt {ys : List Str} (nd : ys.Nodup) : ys.Pairwise fun a b => ys.idxOf a < ys.idxOf b := pair_of fun i j hij hj => by
  have e : ∀ m, m < ys.length → ys.idxOf (ys.getD m default) = m := fun m hm => by
    have g := getD_at (xs := ys) hm
    obtain ⟨a1, a2⟩ := List.getElem?_eq_some_iff.mp g
    obtain ⟨b1, b2⟩ := List.getElem?_eq_some_iff.mp (idx_at (List.mem_of_getElem? g))
    exact nd_inj nd b1 a1 (by rw [a2, b2])
  rw [e i (by omega), e j hj]
  exact hij
def away (xs ys : List Str) : Nat := invs (fun x => ys.idxOf x) xs
theorem away_sum {xs : List Str} (ys : List Str) (nd : xs.Nodup) : away xs ys = sumOf xs fun a => sumOf xs fun b => one? (decide (xs.idxOf a < xs.idxOf b ∧ ys.idxOf b < ys.idxOf a)) := by
  unfold away
  rw [invs_eq]
  exact invR_sum _ _ (idx_lt nd)
theorem away_comm {xs ys : List Str} (p : ys.Perm xs) (nd : xs.Nodup) : away xs ys = away ys xs := by
  rw [away_sum ys nd, away_sum xs (p.nodup_iff.mpr nd), sumOf_comm, sumOf_perm p]
  refine sumOf_congr fun b _ => ?_
  rw [sumOf_perm p]
  refine sumOf_congr fun a _ => ?_
  rw [show (decide (xs.idxOf a < xs.idxOf b ∧ ys.idxOf b < ys.idxOf a)) = decide (ys.idxOf b < ys.idxOf a ∧ xs.idxOf a < xs.idxOf b) by simp [and_comm]]
theorem away_self {xs : List Str} (nd : xs.Nodup) : away xs xs = 0 := by
  have : xs.Pairwise fun a b => (fun x => xs.idxOf x) a ≤ (fun x => xs.idxOf x) b := (idx_lt nd).imp fun h => Nat.le_of_lt h
  have z : ∀ {l : List Str}, l.Pairwise (fun a b => xs.idxOf a ≤ xs.idxOf b) → invR (fun x => xs.idxOf x) l = 0 := by
    intro l
    induction l with
    | nil => intro _; rfl
    | cons a r ih =>
      intro h
      obtain ⟨h1, h2⟩ := List.pairwise_cons.mp h
      show cntLt _ a r + invR _ r = 0
      rw [ih h2]
      unfold cntLt
      rw [List.filter_eq_nil_iff.mpr fun b hb z => by have q1 := h1 b hb; have q2 : xs.idxOf b < xs.idxOf a := of_decide_eq_true z; omega]
      rfl
  unfold away
  rw [invs_eq]
  exact z this
theorem invs_up {rk : Str → Nat} : ∀ {xs : List Str} {k : Nat}, k + 1 < xs.length → invs rk (exch xs k) ≤ invs rk xs + 1
  | [], k, h => by simp at h
  | [a], k, h => by simp at h
  | a :: b :: t, 0, h => by
    rw [exch_zero, invs_eq, invs_eq]
    show cntLt rk b (a :: t) + (cntLt rk a t + invR rk t) ≤ cntLt rk a (b :: t) + (cntLt rk b t + invR rk t) + 1
    rw [cntLt_cons, cntLt_cons]
    have : (if rk a < rk b then 1 else 0) ≤ 1 := by split <;> omega
    omega
  | a :: b :: t, k + 1, h => by
    have h' : k + 1 < (b :: t).length := by simpa using h
    have ih := invs_up (rk := rk) h'
    rw [exch_cons, invs_eq, invs_eq]
    rw [invs_eq, invs_eq] at ih
    show cntLt rk a (exch (b :: t) k) + invR rk (exch (b :: t) k) ≤ cntLt rk a (b :: t) + invR rk (b :: t) + 1
    rw [cntLt_perm (exch_perm h')]
    omega
theorem away_up {xs ys : List Str} {k : Nat} (p : ys.Perm xs) (nd : xs.Nodup) (h : k + 1 < ys.length) : away xs (exch ys k) ≤ away xs ys + 1 := by
  rw [away_comm ((exch_perm h).trans p) nd, away_comm p nd]
  exact invs_up h
/-- no detour is shorter -/
theorem away_tri {xs zs : List Str} (nd : xs.Nodup) (pz : zs.Perm xs) : ∀ (n : Nat) {ys : List Str}, away ys zs = n → ys.Perm xs → away xs zs ≤ away xs ys + n
  | n, ys, h, p => by
    have ndz := pz.nodup_iff.mpr nd
    by_cases e : ys = zs
    · rw [e]
      exact Nat.le_add_right _ _
    · obtain ⟨k, r, _, kl, kd⟩ := descs_first (p.trans pz.symm) ndz e
      have h1 : away (exch ys k) zs + 1 = away ys zs := invs_exch kl kd
      have h2 := away_up p nd kl
      cases n with
      | zero => omega
      | succ n =>
        have ih := away_tri nd pz n (ys := exch ys k) (by omega) ((exch_perm kl).trans p)
        omega
/-- a change that brings nearer stays amid -/
theorem away_amid {xs ys hs : List Str} {k : Nat} (nd : xs.Nodup) (py : ys.Perm xs) (ph : hs.Perm xs) (h : away xs hs + away hs ys = away xs ys) (kl : k + 1 < hs.length) (kd : ys.idxOf (hs.getD (k + 1) default) < ys.idxOf (hs.getD k default)) : away xs (exch hs k) + away (exch hs k) ys = away xs ys := by
  have h1 : away (exch hs k) ys + 1 = away hs ys := invs_exch kl kd
  have h2 := away_up ph nd kl
  have h3 := away_tri nd py _ (ys := exch hs k) rfl ((exch_perm kl).trans ph)
  omega
end Ah
set_option Elab.async false
set_option linter.all false
set_option maxRecDepth 100000
set_option maxHeartbeats 4000000
namespace Ah
open PySem PySem.Spec PyProof.Rows L2
theorem perm_of_sub : ∀ {xs ys : List Str}, xs.Nodup → xs.length = ys.length → (∀ x ∈ xs, x ∈ ys) → ys.Perm xs
  | [], ys, _, h, _ => by
    have : ys = [] := List.length_eq_zero_iff.mp h.symm
    rw [this]
  | a :: r, ys, nd, h, s => by
    have ha : a ∈ ys := s a List.mem_cons_self
    have p := List.perm_cons_erase ha
    have hl : r.length = (ys.erase a).length := by
      have := p.length_eq
      rw [List.length_cons] at h this
      omega
    obtain ⟨na, nr⟩ := List.nodup_cons.mp nd
    have ih := perm_of_sub nr hl fun x hx => by
      have hxy := s x (List.mem_cons_of_mem _ hx)
      have hne : x ≠ a := fun e => na (e ▸ hx)
      exact (List.mem_erase_of_ne hne).mpr hxy
    exact p.trans (ih.cons a)
theorem dueRows_yes {d : Th} {ds : List Th} (h : d.isHands) : dueRows (d :: ds) = (d :: ds).find? fun e => !decide (IsRow d.names e) := if_pos h
theorem dueRows_no {d : Th} {ds : List Th} (h : ¬ d.isHands) : dueRows (d :: ds) = some d := if_neg h
theorem due_none {d1 d2 : Th} (h : dueRows [d1, d2] = none) : ∃ xs ys, d1 = .tup xs ∧ d2 = .tup ys ∧ AreHands xs ∧ ys.Perm xs := by
  by_cases hh : d1.isHands
  · rw [dueRows_yes hh, List.find?_eq_none] at h
    have r1 : IsRow d1.names d1 := by
      have := h d1 (by simp)
      simpa using this
    have r2 : IsRow d1.names d2 := by
      have := h d2 (by simp)
      simpa using this
    cases d1 with
    | oth o => exact hh.elim
    | lst xs => exact r1.elim
    | tup xs =>
      cases d2 with
      | oth o => exact r2.elim
      | lst ys => exact r2.elim
      | tup ys => exact ⟨xs, ys, rfl, rfl, hh, perm_of_sub hh.2.2.2 r2.1.symm r2.2⟩
  · rw [dueRows_no hh] at h
    cases h
theorem due_good {xs ys : List Str} (h : AreHands xs) (p : ys.Perm xs) : dueRows [.tup xs, .tup ys] = none := by
  rw [dueRows_yes (show (Th.tup xs).isHands from h), List.find?_eq_none]
  intro d hd
  have r1 : IsRow xs (.tup xs) := ⟨rfl, fun _ h => h⟩
  have r2 : IsRow xs (.tup ys) := ⟨p.length_eq, fun x hx => p.mem_iff.mpr hx⟩
  rcases (by simpa using hd : d = .tup xs ∨ d = .tup ys) with rfl | rfl
  · have r1' : IsRow (Th.tup xs).names (.tup xs) := r1
    simpa using r1'
  · have r2' : IsRow (Th.tup xs).names (.tup ys) := r2
    simpa using r2'
/-- a way from one row to another -/
def WayTo : List Str → List Nat → List Str → Prop
  | xs, [], ys => xs = ys
  | xs, p :: ps, ys => p + 1 < xs.length ∧ WayTo (exch xs p) ps ys
theorem WayTo.snoc : ∀ {ps : List Nat} {xs ys : List Str} {p : Nat}, WayTo xs ps ys → p + 1 < ys.length → WayTo xs (ps ++ [p]) (exch ys p)
  | [], xs, ys, p, h, hp => by
    obtain rfl : xs = ys := h
    exact ⟨hp, rfl⟩
  | q :: ps, xs, ys, p, h, hp => ⟨h.1, h.2.snoc hp⟩
theorem invs_zero {rk : Str → Nat} : ∀ {xs : List Str}, xs.Pairwise (fun a b => rk a ≤ rk b) → invs rk xs = 0
  | [], _ => rfl
  | a :: r, h => by
    obtain ⟨h1, h2⟩ := List.pairwise_cons.mp h
    rw [invs_eq]
    show cntLt rk a r + invR rk r = 0
    rw [← invs_eq, invs_zero h2]
    unfold cntLt
    rw [List.filter_eq_nil_iff.mpr fun b hb z => by have := h1 b hb; have := of_decide_eq_true z; omega]
    rfl
theorem idx_pair {ys : List Str} (nd : ys.Nodup) : ys.Pairwise fun a b => ys.idxOf a ≤ ys.idxOf b := pair_of fun i j hij hj => by
  have e : ∀ m, m < ys.length → ys.idxOf (ys.getD m default) = m := fun m hm => by
    have g := getD_at (xs := ys) hm
    obtain ⟨a1, a2⟩ := List.getElem?_eq_some_iff.mp g
    obtain ⟨b1, b2⟩ := List.getElem?_eq_some_iff.mp (idx_at (List.mem_of_getElem? g))
    exact nd_inj nd b1 a1 (by rw [a2, b2])
  rw [e i (by omega), e j hj]
  omega
section
variable {P : Program} {w : World} {K : PySem.W.Frag} {mg : Str → Option Value} {base : Heap}
end
end Ah
set_option Elab.async false
set_option linter.all false
set_option maxRecDepth 100000
set_option maxHeartbeats 4000000
namespace Ah
open PySem PySem.Spec PyProof.Rows L2
abbrev sPen : Stmt := topS 17
theorem pen_new (c : Addr) (a l : Int) : mergeK [] (penK c a l) = penK c a l := by
  have e1 : (putK ([] : List (Key × V)) (.inr "cells" : Key) (V.ref c)) = [((.inr "cells" : Key), V.ref c)] := rfl
  have n1 : valV [((.inr "cells" : Key), V.ref c)] (.inr "at" : Key) = none := (valV_neg fun e => k_ca (Sum.inr.inj e)).trans rfl
  have n2 : valV [((.inr "cells" : Key), V.ref c), (.inr "at", .int a)] (.inr "left" : Key) = none := (valV_neg fun e => k_cl (Sum.inr.inj e)).trans ((valV_neg fun e => k_al (Sum.inr.inj e)).trans rfl)
  show putK (putK (putK ([] : List (Key × V)) (.inr "cells" : Key) (V.ref c)) (.inr "at" : Key) (V.int a)) (.inr "left" : Key) (V.int l) = _
  rw [e1, putK_new _ n1]
  show putK [((.inr "cells" : Key), V.ref c), (.inr "at", .int a)] (.inr "left" : Key) (V.int l) = _
  rw [putK_new _ n2]
  rfl
def Od.data : Od → PyData
  | .non => .none
  | .str x => .str x
  | .int i => .int i
  | .dic => .dict []
def Th.data : Th → PyData
  | .oth o => o.data
  | .lst xs => .list (xs.map PyData.str)
  | .tup xs => .tuple (xs.map PyData.str)
theorem ThAt.dp {K : PySem.W.Frag} {H : Hp} {v : V} {d : Th} (h : ThAt H v d) (nd : d ≠ .oth .dic) : Dp K H v d.data := by
  cases d with
  | oth o =>
    cases o with
    | non =>
      cases (show v = .non from h)
      exact .non
    | str x =>
      cases (show v = .str x from h)
      exact .str x
    | int i =>
      cases (show v = .int i from h)
      exact .int i
    | dic => exact absurd rfl nd
  | lst xs =>
    obtain ⟨a, rfl, h⟩ := h
    exact .lst (SqL.of h) (dp_strs xs)
  | tup xs =>
    obtain ⟨a, rfl, h⟩ := h
    exact .tup (.inl h) (dp_strs xs)
section
variable {P : Program} {w : World} {K : PySem.W.Frag} {mg : Str → Option Value} {base : Heap}
theorem scPen : FnScope ["script"] ["script"] (defScope sPen) := ⟨rfl, rfl, rfl, by decide +kernel, rfl, by decide +kernel, by decide +kernel⟩
def spPen (K : PySem.W.Frag) : Sp := fun vs H Q _ => ∃ (a : Addr) (ns : List Int), vs = [.ref a] ∧ SqL K H a (ns.map V.int) ∧ ∀ (p c : Addr) (H' : Hp), PenAt H' p c 0 → Q (.ref p) H'
theorem ok_pen {f : Addr} {fd : FuncData} (F : Fun K "_law_pen" "_law_pen" sPen f fd) (B : Blt2 mg) : FnOk P w K mg base CX0 1 f fd ["script"] (spPen K) := by
  refine F.ok scPen (fun vs H Q E h => ?_) (fun cdv A outer s H vs Q E hr h => ?_)
  · obtain ⟨a, ns, rfl, _⟩ := h
    rfl
  · obtain ⟨a, ns, rfl, ha, k⟩ := h
    refine ⟨_, pss_one (ps_ret (pe_disp (pps_cons pe_str (pe_callTy call_list_of (by rfl) B.list (by decide +kernel) (pa_cons (pe_slice sl_list (pv 0) po_none (po_some pe_int)) pa_nil)) (pps_cons pe_str pe_int (pps_cons pe_str pe_int pps_nil))) rfl rfl (by simp) (by decide))), ?_⟩
    refine fun p hp => ⟨_, rfl, _, rfl, a, ns.map V.int, rfl, (same_new hp).seq ha, fun l1 hl1 => ?_⟩
    refine ⟨l1, _, rfl, .inl (SqL.of upd_same), fun l2 hl2 => ?_⟩
    have s12 := (same_new (o := .lst (cutV (ns.map V.int) none (some 63))) hl1).trans (same_new (o := .lst (cutV (ns.map V.int) none (some 63))) hl2)
    refine ⟨s12 _ _ upd_same, penK l2 0 0, rfl, (by show 3 ≤ 15; decide), ?_⟩
    rw [pen_new]
    have nlp : l2 ≠ p := fun e => by
      rw [e] at hl2
      have := (same_new (o := .lst (cutV (ns.map V.int) none (some 63))) hl1) p _ upd_same
      rw [hl2] at this
      cases this
    refine k p l2 _ ⟨(ns.take (min 63 ns.length)), 0, 0, upd_same, ?_, by decide, by decide, by decide⟩
    rw [upd_ne nlp, upd_same]
    have ec : cutV (ns.map V.int) none (some 63) = (ns.take (min 63 ns.length)).map V.int := by
      unfold cutV
      rw [HT.sIx_none, show (63 : Int) = ((63 : Nat) : Int) from rfl, HT.sIx_nat, List.drop_zero, Nat.sub_zero, List.length_map, List.map_take]
    rw [ec]
end
end Ah
set_option Elab.async false
set_option linter.all false
set_option maxRecDepth 100000
set_option maxHeartbeats 1000000
/-! dict(zip(t, t)), t a tuple: the pairs as dict() takes them -/
namespace ZS
open PySem
open PySem.Sem (wp)
section
variable {prog : Program} {w : World} {A : Around} {E : Value → Shared → Prop} {s : Shared}
/-- the next pair while the one before it is kept -/
theorem held_item {z P O T i j l : Addr} {f : Bool} {oT : Obj} {k : Nat} {xs : Array Value} {x : Value} {Q : Option Value → Shared → Prop} (D : ZipApart z P O i j l l) (hz : IsZipHeld s.heap z P O T f) (hT : s.heap.get? T = some oT)
    (hP : IsPair s.heap P (.ref i) (.ref j)) (hi : s.heap.IsTupleIter i l k) (hj : s.heap.IsTupleIter j l k) (hl : s.heap.IsTuple l xs) (hx : xs[k]? = some x)
    (hQ : ∀ g, IsZipHeld g z P O T true → g.IsTupleIter i l (k + 1) → g.IsTupleIter j l (k + 1) → IsPair g s.heap.objs.size x x → (∀ c o, c ≠ z → c ≠ i → c ≠ j → s.heap.get? c = some o → g.get? c = some o) → Q (some (.ref s.heap.objs.size)) { s with heap := g }) :
    wpAny (model prog w) A (pyNext (.ref z)) Q E s := by
  have ty : s.TypeIs (.ref z) "zip" := ⟨_, hz, rfl⟩
  unfold pyNext
  refine wpAny_bind (wpAny_attempt (wpAny_callSpecial?_slot (name := Str.ofString "__next__") ty F.slot_zip_next (wpAny_call_entry F.slot_zip_next ty F.entry_zip_next (wpAny_mono (Q := fun fin s' => ∃ v, fin = Fin.done (.ret v) ∧ Q (some v) s') ?_ (fun fin s' ⟨v, e, q⟩ => ⟨v, e, wpAny_pure q⟩) fun _ _ q => q) (F.args_zip_next_1 _))))
  show wpAny _ _ (field (.ref z) 2 >>= _) _ _ _; refine wpAny_bind (wpAny_field hz rfl (x := .bool false) rfl ?_)
  show wpAny _ _ (field (.ref z) 3 >>= _) _ _ _; refine wpAny_bind (wpAny_field hz rfl (x := .ref P) rfl (wpAny_bind (wpAny_seqItems hP rfl ?_)))
  show wpAny _ _ (Builtin.SmallTypes.ownedTupleIsFree (.ref z) >>= _) _ _ _; refine wpAny_bind (wpAny_tupleHeld_zip hz hT fun g1 z1 b1 => ?_)
  simp only [Bool.false_eq_true, if_false]
  refine wpAny_bind ?_
  rw [← Array.forIn_toList]; simp only [List.forIn_cons, List.forIn_nil]
  refine wpAny_bind (wpAny_bind (wpAny_holding ?_))
  show wpAny _ _ (Builtin.SmallTypes.nextOf (.ref i) >>= _) _ _ _; refine wpAny_bind (RZ.nextOf_tuple_item (s := { s with heap := g1 }) (hi.extBut b1.extBut D.i1z) (hl.extBut b1.extBut D.l1z) hx fun g2 i2 b2 => wpAny_pure (wpAny_pure ?_))
  refine wpAny_bind (wpAny_bind (wpAny_holding ?_))
  show wpAny _ _ (Builtin.SmallTypes.nextOf (.ref j) >>= _) _ _ _
  refine wpAny_bind (RZ.nextOf_tuple_item (s := { s with heap := g2 }) ((hj.extBut b1.extBut D.i2z).extBut b2.extBut D.i12.symm) ((hl.extBut b1.extBut D.l2z).extBut b2.extBut D.l2i1) hx fun g3 j3 b3 => wpAny_pure (wpAny_pure (wpAny_pure ?_)))
  show wpAny _ _ (newTuple [x, x] >>= _) _ _ _; refine wpAny_bind (wpAny_newTuple (wpAny_pure ⟨_, rfl, ?_⟩))
  show Q (some (.ref g3.objs.size)) _
  have sz : g3.objs.size = s.heap.objs.size := b3.1.trans (b2.1.trans b1.1)
  have old : ∀ c o, c ≠ z → c ≠ i → c ≠ j → s.heap.get? c = some o → g3.get? c = some o := fun c o c1 c2 c3 e => b3.extBut _ _ c3 (b2.extBut _ _ c2 (b1.extBut _ _ c1 e))
  have up : ∀ c o, g3.get? c = some o → (g3.push { cls := .type "tuple", data := .seq #[x, x] }).get? c = some o := fun c o e => Heap.get?_push_of_some _ e
  have new : IsPair (g3.push { cls := .type "tuple", data := .seq #[x, x] }) g3.objs.size x x := Heap.get?_push_size _ rfl
  rw [sz] at new ⊢
  exact hQ _ (up _ _ (b3.extBut _ _ D.i2z.symm (b2.extBut _ _ D.i1z.symm z1))) ((i2.extBut b3.extBut D.i12).at fun o e => up _ o e) (j3.at fun o e => up _ o e) new fun c o c1 c2 c3 e => up c o (old c o c1 c2 c3 e)
/-- no more pairs while the one before is kept -/
theorem held_end {z P O T i j l : Addr} {f : Bool} {oT : Obj} {k : Nat} {xs : Array Value} {Q : Option Value → Shared → Prop} (quiet : A.handled = none) (D : ZipApart z P O i j l l) (hz : IsZipHeld s.heap z P O T f) (hT : s.heap.get? T = some oT)
    (hP : IsPair s.heap P (.ref i) (.ref j)) (hi : s.heap.IsTupleIter i l k) (hl : s.heap.IsTuple l xs) (hx : xs[k]? = none)
    (hQ : ∀ g, (∀ c o, c ≠ z → c ≠ i → c ≠ j → s.heap.get? c = some o → g.get? c = some o) → Q none { s with heap := g }) : wpAny (model prog w) A (pyNext (.ref z)) Q E s := by
  have ty : s.TypeIs (.ref z) "zip" := ⟨_, hz, rfl⟩
  unfold pyNext
  refine wpAny_bind (wpAny_attempt (wpAny_callSpecial?_slot (name := Str.ofString "__next__") ty F.slot_zip_next (wpAny_call_entry F.slot_zip_next ty F.entry_zip_next ?_ (F.args_zip_next_1 _))))
  show wpAny _ _ (field (.ref z) 2 >>= _) _ _ _; refine wpAny_bind (wpAny_field hz rfl (x := .bool false) rfl ?_)
  show wpAny _ _ (field (.ref z) 3 >>= _) _ _ _; refine wpAny_bind (wpAny_field hz rfl (x := .ref P) rfl (wpAny_bind (wpAny_seqItems hP rfl ?_)))
  show wpAny _ _ (Builtin.SmallTypes.ownedTupleIsFree (.ref z) >>= _) _ _ _; refine wpAny_bind (wpAny_tupleHeld_zip hz hT fun g1 z1 b1 => ?_)
  simp only [Bool.false_eq_true, if_false]
  refine wpAny_bind ?_
  rw [← Array.forIn_toList]; simp only [List.forIn_cons, List.forIn_nil]
  refine wpAny_bind (wpAny_bind (wpAny_holding ?_))
  show wpAny _ _ (Builtin.SmallTypes.nextOf (.ref i) >>= _) _ _ _
  refine wpAny_bind (RZ.nextOf_tuple_end (s := { s with heap := g1 }) quiet (hi.extBut b1.extBut D.i1z) (hl.extBut b1.extBut D.l1z) hx fun g2 e b2 he => ?_)
  obtain ⟨oe, e1, e2⟩ := he
  exact wpAny_bind (wpAny_isInstance (T := "StopIteration") (b := true) ⟨oe, e1, e2⟩ isSubtype_stop (wpAny_pure (hQ _ fun c o c1 c2 _ x => b2 _ _ c2 (b1.extBut _ _ c1 x))))
end
section
variable {prog : Program} {w : World}
/-- how it stands behind k pairs, d the dict that takes them -/
def Zat (z P O i j l d : Addr) (xs : Array Value) (k : Nat) (h : Heap) : Prop := IsPair h P (.ref i) (.ref j) ∧ h.IsTupleIter i l k ∧ h.IsTupleIter j l k ∧ h.IsTuple l xs ∧
  ((IsZip h z P O .none ∧ ∃ a b, IsPair h O a b) ∨ ∃ T f oT, IsZipHeld h z P O T f ∧ h.get? T = some oT ∧ T ≠ z ∧ T ≠ i ∧ T ≠ j ∧ T ≠ d)
theorem arg {z P O i j l : Addr} (D : ZipApart z P O i j l l) (xs : Array Value) : PairArg prog w "zip" z [z, P, O, i, j, l] [z, O, i, j] xs.size (fun k a b => xs[k]? = some a ∧ xs[k]? = some b)
    (fun h => IsZip h z P O .none ∧ IsPair h P (.ref i) (.ref j) ∧ (∃ a b, IsPair h O a b) ∧ h.IsTupleIter i l 0 ∧ h.IsTupleIter j l 0 ∧ h.IsTuple l xs) where
  type := fun s ok => ⟨_, ok.1, rfl⟩
  notDict := by decide
  keep := fun h g ok up => let ⟨hz, hP, ⟨a, b, hO⟩, hi, hj, hl⟩ := ok; ⟨up _ _ hz, up _ _ hP, ⟨a, b, up _ _ hO⟩, hi.at fun o e => up _ o e, hj.at fun o e => up _ o e, hl.at fun o e => up _ o e⟩
  there := fun h ok b hb => by
    obtain ⟨hz, hP, ⟨a, c, hO⟩, ⟨oi, hi, _⟩, ⟨oj, hj, _⟩, ⟨ol, hl, _⟩⟩ := ok
    rcases (by simpa using hb : b = z ∨ b = P ∨ b = O ∨ b = i ∨ b = j ∨ b = l) with q | q | q | q | q | q
    · rw [q]; exact ⟨_, hz⟩
    · rw [q]; exact ⟨_, hP⟩
    · rw [q]; exact ⟨_, hO⟩
    · rw [q]; exact ⟨_, hi⟩
    · rw [q]; exact ⟨_, hj⟩
    · rw [q]; exact ⟨_, hl⟩
  sub := fun b hb => by
    rcases (by simpa using hb : b = z ∨ b = O ∨ b = i ∨ b = j) with q | q | q | q <;> simp [q]
  noKeys := fun A s Q E quiet ok h => getAttrOr_miss_zip ok.1 rfl rfl rfl zip_no_keys (by decide +kernel) quiet h
  iter := fun A s d Q E quiet ok hd hdf h => by
    obtain ⟨hz, hP, ⟨a, b, hO⟩, hi, hj, hl⟩ := ok
    obtain ⟨nz, nP, nO, ni, nj, nl⟩ : d ≠ z ∧ d ≠ P ∧ d ≠ O ∧ d ≠ i ∧ d ≠ j ∧ d ≠ l := by simpa using hdf
    refine wpAny_pyIter_zip hz (h z [z, O, i, j] (Zat z P O i j l d xs) s.heap s.toks ?_ ⟨hP, hi, hj, hl, .inl ⟨hz, a, b, hO⟩⟩ (fun _ _ e => e) fun b hb => .inl hb)
    exact {
      off := fun hm => by
        rcases (by simpa using hm : d = z ∨ d = O ∨ d = i ∨ d = j) with q | q | q | q
        · exact nz q
        · exact nO q
        · exact ni q
        · exact nj q
      frame := fun k g1 g2 st up => by
        obtain ⟨hP, hi, hj, hl, hz⟩ := st
        refine ⟨up _ _ nP.symm hP, hi.at fun o e => up _ o ni.symm e, hj.at fun o e => up _ o nj.symm e, hl.at fun o e => up _ o nl.symm e, ?_⟩
        rcases hz with ⟨hz, a, b, hO⟩ | ⟨T, f, oT, hz, hT, r1, r2, r3, r4⟩
        · exact .inl ⟨up _ _ nz.symm hz, a, b, up _ _ nO.symm hO⟩
        · exact .inr ⟨T, f, oT, up _ _ nz.symm hz, up _ _ r4 hT, r1, r2, r3, r4⟩
      item := fun k s1 Q1 E1 hk st hds hQ => by
        obtain ⟨hP, hi, hj, hl, hz⟩ := st
        have ex := Array.getElem?_eq_getElem hk
        have lt : ∀ {c o}, s1.heap.get? c = some o → s1.heap.objs.size ≠ c := fun e => Nat.ne_of_gt (Heap.lt_size e)
        have n1 : s1.heap.objs.size ≠ i := let ⟨_, e, _⟩ := hi; lt e
        have n2 : s1.heap.objs.size ≠ j := let ⟨_, e, _⟩ := hj; lt e
        rcases hz with ⟨hz, a, b, hO⟩ | ⟨T, f, oT, hz, hT, r1, r2, r3, r4⟩
        · refine RZ.pyNext_zipT_item D hz hP hO hi hj hl hl ex ex fun g a1 a2 a3 a4 a5 a6 up => ?_
          exact hQ s1.heap.objs.size _ _ g s1.toks ⟨ex, ex⟩ (.inl ⟨_, a5, rfl, _, rfl⟩) ⟨up _ _ D.TIz D.TITO D.TIi1 D.TIi2 hP, a3, a4, hl.at fun o e => up _ o D.l1z D.l1TO D.l1i1 D.l1i2 e, .inr ⟨s1.heap.objs.size, false, _, a1, a5, lt hz, n1, n2, Nat.ne_of_gt hds⟩⟩
            fun c o hc e => up c o (fun q => hc (by simp [q])) (fun q => hc (by simp [q])) (fun q => hc (by simp [q])) (fun q => hc (by simp [q])) e
        · refine held_item D hz hT hP hi hj hl ex fun g a1 a3 a4 a5 up => ?_
          exact hQ s1.heap.objs.size _ _ g s1.toks ⟨ex, ex⟩ (.inl ⟨_, a5, rfl, _, rfl⟩) ⟨up _ _ D.TIz D.TIi1 D.TIi2 hP, a3, a4, hl.at fun o e => up _ o D.l1z D.l1i1 D.l1i2 e, .inr ⟨T, true, oT, a1, up _ _ r1 r2 r3 hT, r1, r2, r3, r4⟩⟩
            fun c o hc e => up c o (fun q => hc (by simp [q])) (fun q => hc (by simp [q])) (fun q => hc (by simp [q])) e
      done := fun s1 Q1 E1 st hQ => by
        obtain ⟨hP, hi, hj, hl, hz⟩ := st
        have over : xs[xs.size]? = none := Array.getElem?_eq_none (Nat.le_refl _)
        rcases hz with ⟨hz, a, b, hO⟩ | ⟨T, f, oT, hz, hT, r1, r2, r3, r4⟩
        · exact RZ.pyNext_zipT_end quiet D hz hP hO hi hj hl hl (.inl over) fun g up => hQ g s1.toks fun c o hc e => up c o (fun q => hc (by simp [q])) (fun q => hc (by simp [q])) (fun q => hc (by simp [q])) (fun q => hc (by simp [q])) e
        · exact held_end quiet D hz hT hP hi hl over fun g up => hQ g s1.toks fun c o hc e => up c o (fun q => hc (by simp [q])) (fun q => hc (by simp [q])) (fun q => hc (by simp [q])) e }
end
end ZS
set_option Elab.async false
set_option linter.all false
set_option maxRecDepth 100000
set_option maxHeartbeats 4000000
namespace Ah
open PySem PySem.Spec PyProof.Rows L2
theorem mergeK_le : ∀ (more kvs : List (Key × V)), (mergeK kvs more).length ≤ kvs.length + more.length
  | [], kvs => Nat.le_refl _
  | (k, v) :: r, kvs => by
    have h1 := mergeK_le r (putK kvs k v)
    have h2 := DSub.putK_len kvs k v
    show (mergeK (putK kvs k v) r).length ≤ kvs.length + (r.length + 1)
    omega
theorem mergeK_new : ∀ (more kvs : List (Key × V)), (mergeK kvs more).length = kvs.length + more.length → (∀ p ∈ more, valV kvs p.1 = none) ∧ (more.map (·.1)).Nodup
  | [], kvs, _ => ⟨fun _ h => (List.not_mem_nil h).elim, List.nodup_nil⟩
  | (k, v) :: r, kvs, h => by
    have h' : (mergeK (putK kvs k v) r).length = kvs.length + (r.length + 1) := h
    have h1 := mergeK_le r (putK kvs k v)
    have hk : valV kvs k = none := by
      cases e : valV kvs k with
      | none => rfl
      | some y =>
        have hl : (putK kvs k v).length = kvs.length := by
          unfold putK
          rw [valV_any, e]
          exact List.length_map ..
        omega
    have hp := putK_new v hk
    have ih := mergeK_new r (putK kvs k v) (by rw [h', hp, List.length_append]; show _ = kvs.length + 1 + r.length; omega)
    refine ⟨fun p hp' => ?_, ?_⟩
    · rcases List.mem_cons.mp hp' with rfl | z
      · exact hk
      · have := ih.1 p z
        rw [valV_put] at this
        by_cases e : p.1 = k
        · rw [if_pos e] at this
          cases this
        · rw [if_neg e] at this
          exact this
    · rw [List.map_cons, List.nodup_cons]
      refine ⟨fun hm => ?_, ih.2⟩
      obtain ⟨p, hp', e⟩ := List.mem_map.mp hm
      have := ih.1 p hp'
      rw [valV_put, if_pos e] at this
      cases this
def selfK (xs : List Str) : List (Key × V) := xs.map fun x => ((Sum.inr x : Key), V.str x)
theorem selfK_nodup {xs : List Str} (h : (mergeK [] (selfK xs)).length = xs.length) : xs.Nodup := by
  have h' := (mergeK_new (selfK xs) [] (by rw [h]; simp [selfK])).2
  have e : (selfK xs).map (·.1) = xs.map fun x => (Sum.inr x : Key) := by
    unfold selfK
    rw [List.map_map]
    rfl
  rw [e] at h'
  exact (List.pairwise_map.mp h').imp fun {a b} z q => z (by rw [q])
theorem self_pairs {P : Program} {w : World} : ∀ {xs : List Str} {its : List Value}, Vals (xs.map V.str) its → ∃ kvs : List (Key × Value), KV (selfK xs) kvs ∧ kvs.length = its.length ∧ ∀ (i : Nat) (u : Value), its[i]? = some u → ∃ k, kvs[i]? = some (k, u) ∧ (mixKind P w).is k u = true
  | [], _, .nil => ⟨[], .nil, rfl, fun i u h => by simp at h⟩
  | x :: xs, u :: us, .cons r t => by
    obtain ⟨kvs, h1, h2, h3⟩ := self_pairs (P := P) (w := w) t
    refine ⟨(Sum.inr x, u) :: kvs, .cons ⟨rfl, r⟩ h1, by rw [List.length_cons, List.length_cons, h2], fun i v hv => ?_⟩
    cases i with
    | zero =>
      obtain rfl : u = v := Option.some.inj hv
      exact ⟨Sum.inr x, rfl, kV_is (k := (Sum.inr x : Key)) r⟩
    | succ i => exact h3 i v hv
section
variable {X : Cx}
def tDictZip (K : PySem.W.Frag) (ta : TA) : TE := fun σ H Q => ta σ H fun vs H1 => ∃ (a : Addr) (xs : List Str), vs = [.ref a, .ref a] ∧ SqT K H1 a (xs.map V.str) ∧ ∀ d, H1 d = none → Q (.ref d) (upd H1 d (.dK (mergeK [] (selfK xs))))
theorem pe_dictZip {e e2 : Expr} {ta : TA} {p p2 pos pos2 : Pos} (hc : X.calm = true) (hg : Gl X "dict") (hm : X.mg "dict" = none) (hg2 : Gl X "zip") (hm2 : X.mg "zip" = none) (ha : PA X [e, e2] ta)
    (hs : starEach [e, e2] X.env = (false, eval e X.env) :: starEach [e2] X.env := by rfl) (hpl : (backTo pos2 (starEach [e2] X.env)).any (·.1) = false := by rfl)
    (hs2 : starEach [.Call (.Name "zip" p2) [e, e2] [] pos2] X.env = (false, eval (.Call (.Name "zip" p2) [e, e2] [] pos2) X.env) :: starEach [] X.env := by rfl) :
    PE X (.Call (.Name "dict" p) [.Call (.Name "zip" p2) [e, e2] [] pos2] [] pos) (tDictZip X.K ta) := by
  refine ⟨fun pins s σ H Q I h => ?_⟩
  refine Call_ (ld_blt I hg hm boot_dict (PyProof.Rows.callWith_type1 (args_cons (Call_ (ld_blt I hg2 hm2 PyProof.Rows.boot_zip (PyProof.Rows.callWith_type1 (thn (ha.run pos2 pins s σ H _ I h) fun us s1 ⟨vs, H1, I1, r1, q1⟩ => ?_) hs hpl))) hs2) hs2 rfl))
  obtain ⟨a, xs, ev, hq, q⟩ := q1
  subst ev
  obtain ⟨its, rv, isT, hz⟩ := I1.tuple hq
  have alt : a < s1.heap.objs.size := isT.elim fun _ z => Heap.lt_size z.1
  cases r1 with
  | cons ra rr =>
    cases rr with
    | cons rb rr =>
      cases rr
      cases ra
      cases rb
      refine RZ.call_zipT (show s1.heap.IsTuple a its.toArray from isT) (show s1.heap.IsTuple a its.toArray from isT) fun h1 hz1 hP hO hi hj hsz keep => args_nil ?_
      have I2 : Inv X pins σ H1 { s1 with heap := h1 } := I1.kept (t' := s1.toks) keep
      obtain ⟨kvs, kv1, kv2, kv3⟩ := self_pairs (P := X.prog) (w := X.w) rv
      have hn : its.toArray.size ≤ sizeLine := by rw [List.size_toArray, ← rv.length]; exact hz
      refine call_dict_pairs (s := { s1 with heap := h1 }) (knd := mixKind X.prog X.w) (kvs := kvs) (ZS.arg (PySem.W.ktu_apart s1.heap.objs.size a a alt alt) its.toArray) (I2.ok.hd hc) ⟨hz1, hP, ⟨_, _, hO⟩, hi, hj, (show s1.heap.IsTuple a its.toArray from isT).at fun o e => keep _ o e⟩ ⟨by rw [kv2]; simp, fun i key v ⟨z1, z2⟩ => ?_⟩ hn fun h2 tk hd up => ?_
      · have z3 : its[i]? = some key := by simpa using z1
        have z4 : its[i]? = some v := by simpa using z2
        rw [z3] at z4
        obtain rfl := Option.some.inj z4
        exact kv3 i key z3
      · have big : s1.heap.objs.size ≤ h1.objs.size := by rw [hsz]; exact Nat.le_add_right _ _
        have dne : (h1.objs.size == sysModules) = false := beq_eq_false_iff_ne.mpr (Nat.ne_of_gt (Nat.lt_of_lt_of_le I1.big big))
        have kvm : KV (mergeK [] (selfK xs)) (PySem.merged [] kvs) := KV.merge kv1 .nil
        have len : (mergeK [] (selfK xs)).length ≤ sizeLine := by
          have h1 := mergeK_le (selfK xs) []
          have h2 : (selfK xs).length = xs.length := by unfold selfK; rw [List.length_map]
          rw [List.length_map] at hz
          have h3 : ([] : List (Key × V)).length = 0 := rfl
          omega
        refine ⟨.ref h1.objs.size, _, I1.laid (t' := tk) (o := .dK (mergeK [] (selfK xs))) (fun b o hb => up b o (fun hw => ?_) (keep _ _ hb)) big ⟨len, dne, _, kvm, hd⟩, rfl, q _ (I1.hok.fresh big)⟩
        have hlt := Heap.lt_size hb
        rcases (by simpa using hw : b = s1.heap.objs.size + 4 ∨ b = s1.heap.objs.size + 3 ∨ b = s1.heap.objs.size ∨ b = s1.heap.objs.size + 1) with z | z | z | z <;> exact absurd hlt (by rw [z]; first | exact Nat.lt_irrefl _ | exact Nat.not_lt.mpr (Nat.le_add_right _ _))
end
end Ah
set_option Elab.async false
set_option linter.all false
set_option maxRecDepth 100000
set_option maxHeartbeats 4000000
namespace Ah
open PySem PySem.Spec PyProof.Rows L2
theorem due_2 {xs : List Str} {d : Th} (h : AreHands xs) (n : ¬ IsRow xs d) : dueRows [.tup xs, d] = some d := by
  rw [dueRows_yes (show (Th.tup xs).isHands from h)]
  have r1 : IsRow (Th.tup xs).names (.tup xs) := ⟨rfl, fun _ h => h⟩
  have n' : ¬ IsRow (Th.tup xs).names d := n
  rw [List.find?_cons, decide_eq_true r1]
  show List.find? _ [d] = some d
  rw [List.find?_cons, decide_eq_false n']
  rfl
theorem due_lst {xs : List Str} {d : Th} (h : AreHands xs) : dueRows [.lst xs, d] = some (.lst xs) := by
  rw [dueRows_yes (show (Th.lst xs).isHands from h)]
  have n' : ¬ IsRow (Th.lst xs).names (.lst xs) := fun z => z
  rw [List.find?_cons, decide_eq_false n']
  rfl
theorem due_non {d : Th} : dueRows [.non, d] = some .non := dueRows_no fun z => z
theorem strs_eqv : ∀ xs : List Str, PyData.eqvAll (xs.map PyData.str) (xs.map PyData.str) = true
  | [] => by simp [PyData.eqvAll]
  | x :: xs => by
    have ih := strs_eqv xs
    simp only [List.map_cons, PyData.eqvAll, ih, PyData.eqv]
    simp
theorem data_eqv (d : Th) (nd : d ≠ .oth .dic) : PyData.eqv (.list [d.data]) (.list [d.data]) = true := by
  cases d with
  | oth o =>
    cases o with
    | dic => exact absurd rfl nd
    | _ => simp [Th.data, Od.data, PyData.eqv, PyData.eqvAll]
  | lst xs => simp [Th.data, PyData.eqv, PyData.eqvAll, strs_eqv]
  | tup xs => simp [Th.data, PyData.eqv, PyData.eqvAll, strs_eqv]
/-- its texts can be shown -/
def Th.okd (d : Th) : Prop := (∀ x ∈ d.names, PyData.strOk x = true) ∧ ∀ x, d = .oth (.str x) → PyData.strOk x = true
theorem data_shp {d : Th} (hk : d.okd) (nd : d ≠ .oth .dic) : Shp d.data := by
  have h := hk.1
  cases d with
  | oth o =>
    cases o with
    | dic => exact absurd rfl nd
    | str x => exact shp_str (hk.2 x rfl)
    | _ => exact ⟨by simp [Th.data, Od.data, PyData.canLay0], by simp [Th.data, Od.data, PyData.depth]⟩
  | lst xs =>
    obtain ⟨h1, h2⟩ := lay_strs xs h
    exact ⟨by simp [Th.data, PyData.canLay0, h1], by simp only [Th.data, PyData.depth]; omega⟩
  | tup xs =>
    obtain ⟨h1, h2⟩ := lay_strs xs h
    exact ⟨by simp [Th.data, PyData.canLay0, h1], by simp only [Th.data, PyData.depth]; omega⟩
def Th.easy : Th → Prop
  | .oth .non => True
  | .oth _ => False
  | _ => True
/-- [..] != [..], the same things -/
theorem ne_same {K : PySem.W.Frag} {H : Hp} {b c : Addr} {u v : V} {d : Th} {Q : VK} (hb : H b = some (.lst [u])) (hc : H c = some (.lst [v])) (hu : ThAt H u d) (hv : ThAt H v d) (ok : ∀ x ∈ d.names, PyData.strOk x = true) (k : Q (.bl false) H) (ez : d.easy := by trivial) : rNeD K (.ref b) (.ref c) H Q := by
  have nd : d ≠ .oth .dic := fun e => by rw [e] at ez; exact ez.elim
  have sh : SeqAt.shaped (.list [d.data]) = true := shp_l fun e he => by rw [List.mem_singleton.mp he]; exact data_shp ⟨ok, fun x e => by rw [e] at ez; exact ez.elim⟩ nd
  refine ⟨.list [d.data], .list [d.data], .lst (SqL.of hb) (.cons (hu.dp nd) .nil), .lst (SqL.of hc) (.cons (hv.dp nd) .nil), sh, sh, ?_⟩
  rw [data_eqv d nd]
  exact k
/-- the first seven signs and a q -/
def withQ (y : Str) : Str := cutS y none (some 7) ++ ("q" : Str)
theorem withQ_hand {y : Str} (h : IsHand y) : IsHand (withQ y) ∧ (cutS y none (some 7)).length + ("q" : Str).length ≤ sizeLine := by
  obtain ⟨l, rfl⟩ : ∃ l : List Nat, y = ⟨l.toArray⟩ := ⟨y.cps.toList, by cases y; simp⟩
  obtain ⟨h1, h2, h3⟩ := h
  rw [str_len] at h1 h2
  have hq : ("q" : Str) = ⟨([113] : List Nat).toArray⟩ := by decide +kernel
  unfold withQ
  rw [cutS_cs, hq, str_app]
  have hs : HT.sIx l.length l.length (some 7) = min 7 l.length := HT.sIx_nat _ _ 7
  rw [hs, HT.sIx_none, List.drop_zero, Nat.sub_zero]
  have hl : (List.take (min 7 l.length) l).length ≤ 7 := by rw [List.length_take]; omega
  refine ⟨⟨?_, ?_, fun b hb => ?_⟩, ?_⟩
  · rw [str_len, List.length_append]
    show 1 ≤ _ + 1
    omega
  · rw [str_len, List.length_append]
    show _ + 1 ≤ 8
    omega
  · have hb' : b ∈ List.take (min 7 l.length) l ++ [113] := by simpa using hb
    rcases List.mem_append.mp hb' with z | z
    · exact h3 b (by simpa using List.mem_of_mem_take z)
    · rw [List.mem_singleton.mp z]
      omega
  · rw [str_len, str_len]
    exact Nat.le_trans (Nat.add_le_add hl (Nat.le_refl 1)) (by decide)
/-- the last one exchanged for a stranger -/
theorem third_strange {xs zs : List Str} {y u : Str} (py : (zs ++ [y]).Perm xs) (nd : xs.Nodup) (nt : (zs ++ [u]).Nodup) (ne : zs ++ [u] ≠ zs ++ [y]) : u ∉ xs ∧ y ∉ zs ++ [u] ∧ y ∈ xs := by
  have nyu : y ≠ u := fun e => ne (by rw [e])
  have ndy := py.nodup_iff.mpr nd
  have hu : u ∉ zs := fun z => by
    have := (List.nodup_append.mp nt).2.2 u z u (List.mem_singleton.mpr rfl)
    exact this rfl
  have hy : y ∉ zs := fun z => by
    have := (List.nodup_append.mp ndy).2.2 y z y (List.mem_singleton.mpr rfl)
    exact this rfl
  refine ⟨fun z => ?_, fun z => ?_, py.mem_iff.mp (by simp)⟩
  · rcases List.mem_append.mp (py.mem_iff.mpr z) with q | q
    · exact hu q
    · exact nyu (List.mem_singleton.mp q).symm
  · rcases List.mem_append.mp z with q | q
    · exact hy q
    · exact nyu (List.mem_singleton.mp q)
end Ah
set_option Elab.async false
set_option linter.all false
set_option maxRecDepth 100000
set_option maxHeartbeats 2000000
/-! != where an empty dict stands on a side, or is the one thing of both lists -/
namespace PySem.SeqAt
open PySem
/-- a dict's object -/
abbrev DObj (es : Array DictEntry) (n : Nat) : Obj := { cls := .type "dict", dict := none, data := .dict es n, slots := #[] }
section
variable {prog : Program} {w : World} {A : Around} {E : Value → Shared → Prop} {s : Shared}
/-- d.__ne__(v), v no dict -/
theorem dict_ne_declines {l : Addr} {v : Value} {T : String} {Q : Value → Shared → Prop} (hl : s.TypeIs (.ref l) "dict") (hv : s.TypeIs v T) (hs : isSubtype (.type T) (.type "dict") = pure false) {nm : Str} (slot : Slot "dict" nm "dict.__ne__") (h : Q .notImplemented s) : wpAny (model prog w) A (call (.builtin "dict.__ne__") [.ref l, v]) Q E s := by
  refine wpAny_call_entry slot hl F.entry_dict_ne ?_ (F.args_dict_ne_2 _ _)
  show wpAny _ _ (Builtin.Dict.dictSlotArgs "__ne__" ⟨[.ref l, v], []⟩ >>= _) _ _ s
  refine wpAny_bind ?_
  unfold Builtin.Dict.dictSlotArgs
  refine wpAny_bind (wpAny_notOrdered_dict hl ?_)
  show wpAny _ _ (pure (Value.ref l, v)) _ _ s
  refine wpAny_pure (wpAny_bind (wpAny_isInstance (T := T) hv hs ?_))
  simp only [Bool.not_false, if_true]
  exact wpAny_bind (wpAny_rule (wpAny_pure ⟨_, rfl, h⟩))
theorem int_ne_dict (b : Int) (u : Tok) (l : Addr) (es : Array DictEntry) (n : Nat) :
    Meets (Builtin.«int.__ne__» ⟨[.int b u, .ref l], []⟩) (fun _ R s => s.heap.get? l = some (DObj es n) ∧ R (.ok (.ret .notImplemented)) s) :=
  .of_wp fun prog w A R s h => by obtain ⟨hp, g, d, tk, os⟩ := s; obtain ⟨hl, h⟩ := h; wp_walk using wpAny_load hl; exact ⟨_, rfl, h⟩
theorem str_ne_dict (b : Str) (u : Tok) (l : Addr) (es : Array DictEntry) (n : Nat) :
    Meets (Builtin.«str.__ne__» ⟨[.str b u, .ref l], []⟩) (fun _ R s => s.heap.get? l = some (DObj es n) ∧ R (.ok (.ret .notImplemented)) s) :=
  .of_wp fun prog w A R s h => by obtain ⟨hp, g, d, tk, os⟩ := s; obtain ⟨hl, h⟩ := h; wp_walk using wpAny_load hl; exact ⟨_, rfl, h⟩
theorem list_ne_dict (l b : Addr) (items : Array Value) (m : Nat) (dd : Option Addr) (sl : Array (Option Value)) (es : Array DictEntry) (n : Nat) :
    Meets (Builtin.«list.__ne__» ⟨[.ref l, .ref b], []⟩) (fun _ R s => s.heap.get? l = some { cls := .type "list", dict := dd, data := .seq items m, slots := sl } ∧ s.heap.get? b = some (DObj es n) ∧ R (.ok (.ret .notImplemented)) s) :=
  .of_wp fun prog w A R s h => by obtain ⟨hp, g, d, tk, os⟩ := s; obtain ⟨hl, hb, h⟩ := h; have f1 := F.sub_dict_list; wp_walk using wpAny_loadPart' hl, wpAny_load hb; exact ⟨_, rfl, h⟩
theorem tuple_ne_dict (l b : Addr) (items : Array Value) (m : Nat) (dd : Option Addr) (sl : Array (Option Value)) (es : Array DictEntry) (n : Nat) :
    Meets (Builtin.«tuple.__ne__» ⟨[.ref l, .ref b], []⟩) (fun _ R s => s.heap.get? l = some { cls := .type "tuple", dict := dd, data := .seq items m, slots := sl } ∧ s.heap.get? b = some (DObj es n) ∧ R (.ok (.ret .notImplemented)) s) :=
  .of_wp fun prog w A R s h => by obtain ⟨hp, g, d, tk, os⟩ := s; obtain ⟨hl, hb, h⟩ := h; have f1 := F.sub_dict_tuple; wp_walk using wpAny_loadPart' hl, wpAny_load hb; exact ⟨_, rfl, h⟩
end
section
variable {A : Around} {s : Shared} {d : Addr} {es : Array DictEntry} {n : Nat}
theorem RcNe.dict_none (hd : s.heap.get? d = some (DObj es n)) (hu : A.units < cLine) : RcNeAt A s (.ref d) .none true := fun prog w E Q h =>
  rc_ne_decline_or (k := false) ⟨_, hd, rfl⟩ rfl (by decide) F.sub_NoneType_dict F.slot_dict_ne F.slot_NoneType_ne_refl (fun _ q => dict_ne_declines ⟨_, hd, rfl⟩ rfl F.sub_NoneType_dict F.slot_dict_ne q)
    (fun _ q => call_gives F.slot_NoneType_ne_refl rfl F.entry_NoneType_ne (F.args_NoneType_ne_2 _ _) (NoneType___ne___none_ref_0 d) q) (fun _ q => wpAny_of_eq (rfl : isSame (.ref d) .none = pure false) q) (.inr hu) h
theorem RcNe.none_dict (hd : s.heap.get? d = some (DObj es n)) (hu : A.units < cLine) : RcNeAt A s .none (.ref d) true := fun prog w E Q h =>
  rc_ne_decline_or (k := false) rfl ⟨_, hd, rfl⟩ (by decide) F.sub_dict_NoneType F.slot_NoneType_ne F.slot_dict_ne_refl (fun _ q => call_gives F.slot_NoneType_ne rfl F.entry_NoneType_ne (F.args_NoneType_ne_2 _ _) (NoneType___ne___none_ref_0 d) q)
    (fun _ q => dict_ne_declines ⟨_, hd, rfl⟩ rfl F.sub_NoneType_dict F.slot_dict_ne_refl q) (fun _ q => wpAny_of_eq (rfl : isSame .none (.ref d) = pure false) q) (.inr hu) h
theorem RcNe.dict_int (b : Int) (u : Tok) (hd : s.heap.get? d = some (DObj es n)) (hu : A.units < cLine) : RcNeAt A s (.ref d) (.int b u) true := fun prog w E Q h =>
  rc_ne_decline_or (k := false) ⟨_, hd, rfl⟩ (typeIs_int s b u) (by decide) F.sub_int_dict F.slot_dict_ne F.slot_int_ne_refl (fun _ q => dict_ne_declines ⟨_, hd, rfl⟩ (typeIs_int s b u) F.sub_int_dict F.slot_dict_ne q)
    (fun _ q => call_meets F.slot_int_ne_refl (typeIs_int s b u) F.entry_int_ne (F.args_int_ne_2 _ _) (int_ne_dict b u d es n) ⟨hd, q⟩) (fun _ q => wpAny_of_eq (rfl : isSame (.ref d) (.int b u) = pure false) q) (.inr hu) h
theorem RcNe.int_dict (b : Int) (u : Tok) (hd : s.heap.get? d = some (DObj es n)) (hu : A.units < cLine) : RcNeAt A s (.int b u) (.ref d) true := fun prog w E Q h =>
  rc_ne_decline_or (k := false) (typeIs_int s b u) ⟨_, hd, rfl⟩ (by decide) F.sub_dict_int F.slot_int_ne F.slot_dict_ne_refl (fun _ q => call_meets F.slot_int_ne (typeIs_int s b u) F.entry_int_ne (F.args_int_ne_2 _ _) (int_ne_dict b u d es n) ⟨hd, q⟩)
    (fun _ q => dict_ne_declines ⟨_, hd, rfl⟩ (typeIs_int s b u) F.sub_int_dict F.slot_dict_ne_refl q) (fun _ q => wpAny_of_eq (rfl : isSame (.int b u) (.ref d) = pure false) q) (.inr hu) h
theorem RcNe.dict_str (b : Str) (u : Tok) (hd : s.heap.get? d = some (DObj es n)) (hu : A.units < cLine) : RcNeAt A s (.ref d) (.str b u) true := fun prog w E Q h =>
  rc_ne_decline_or (k := false) ⟨_, hd, rfl⟩ (typeIs_str s b u) (by decide) F.sub_str_dict F.slot_dict_ne F.slot_str_ne_refl (fun _ q => dict_ne_declines ⟨_, hd, rfl⟩ (typeIs_str s b u) F.sub_str_dict F.slot_dict_ne q)
    (fun _ q => call_meets F.slot_str_ne_refl (typeIs_str s b u) F.entry_str_ne (F.args_str_ne_2 _ _) (str_ne_dict b u d es n) ⟨hd, q⟩) (fun _ q => wpAny_of_eq (rfl : isSame (.ref d) (.str b u) = pure false) q) (.inr hu) h
theorem RcNe.str_dict (b : Str) (u : Tok) (hd : s.heap.get? d = some (DObj es n)) (hu : A.units < cLine) : RcNeAt A s (.str b u) (.ref d) true := fun prog w E Q h =>
  rc_ne_decline_or (k := false) (typeIs_str s b u) ⟨_, hd, rfl⟩ (by decide) F.sub_dict_str F.slot_str_ne F.slot_dict_ne_refl (fun _ q => call_meets F.slot_str_ne (typeIs_str s b u) F.entry_str_ne (F.args_str_ne_2 _ _) (str_ne_dict b u d es n) ⟨hd, q⟩)
    (fun _ q => dict_ne_declines ⟨_, hd, rfl⟩ (typeIs_str s b u) F.sub_str_dict F.slot_dict_ne_refl q) (fun _ q => wpAny_of_eq (rfl : isSame (.str b u) (.ref d) = pure false) q) (.inr hu) h
theorem RcNe.dict_list {l : Addr} {items : Array Value} (hd : s.heap.get? d = some (DObj es n)) (hl : s.heap.IsList l items) (hu : A.units < cLine) : RcNeAt A s (.ref d) (.ref l) true := fun prog w E Q h => by
  obtain ⟨⟨cls, dd, data, sl⟩, ho, hc, m, hdt⟩ := id hl
  simp only at hc hdt
  subst hc hdt
  have ne : d ≠ l := fun e => by rw [e, ho] at hd; simp at hd
  exact rc_ne_decline_or (k := false) ⟨_, hd, rfl⟩ ⟨_, ho, rfl⟩ (by decide) F.sub_list_dict F.slot_dict_ne F.slot_list_ne_refl (fun _ q => dict_ne_declines ⟨_, hd, rfl⟩ ⟨_, ho, rfl⟩ F.sub_list_dict F.slot_dict_ne q)
    (fun _ q => call_meets F.slot_list_ne_refl ⟨_, ho, rfl⟩ F.entry_list_ne (F.args_list_ne_2 _ _) (list_ne_dict l d items m dd sl es n) ⟨ho, hd, q⟩) (fun _ q => wpAny_isSame_ref_other ne hd ho (by simp) q) (.inr hu) h
theorem RcNe.list_dict {l : Addr} {items : Array Value} (hd : s.heap.get? d = some (DObj es n)) (hl : s.heap.IsList l items) (hu : A.units < cLine) : RcNeAt A s (.ref l) (.ref d) true := fun prog w E Q h => by
  obtain ⟨⟨cls, dd, data, sl⟩, ho, hc, m, hdt⟩ := id hl
  simp only at hc hdt
  subst hc hdt
  have ne : l ≠ d := fun e => by rw [← e, ho] at hd; simp at hd
  exact rc_ne_decline_or (k := false) ⟨_, ho, rfl⟩ ⟨_, hd, rfl⟩ (by decide) F.sub_dict_list F.slot_list_ne F.slot_dict_ne_refl (fun _ q => call_meets F.slot_list_ne ⟨_, ho, rfl⟩ F.entry_list_ne (F.args_list_ne_2 _ _) (list_ne_dict l d items m dd sl es n) ⟨ho, hd, q⟩)
    (fun _ q => dict_ne_declines ⟨_, hd, rfl⟩ ⟨_, ho, rfl⟩ F.sub_list_dict F.slot_dict_ne_refl q) (fun _ q => wpAny_isSame_ref_other ne ho hd (by simp) q) (.inr hu) h
theorem RcNe.dict_tuple {l : Addr} {items : Array Value} (hd : s.heap.get? d = some (DObj es n)) (hl : s.heap.IsTuple l items) (hu : A.units < cLine) : RcNeAt A s (.ref d) (.ref l) true := fun prog w E Q h => by
  obtain ⟨⟨cls, dd, data, sl⟩, ho, hc, m, hdt⟩ := id hl
  simp only at hc hdt
  subst hc hdt
  have ne : d ≠ l := fun e => by rw [e, ho] at hd; simp at hd
  exact rc_ne_decline_or (k := false) ⟨_, hd, rfl⟩ ⟨_, ho, rfl⟩ (by decide) F.sub_tuple_dict F.slot_dict_ne F.slot_tuple_ne_refl (fun _ q => dict_ne_declines ⟨_, hd, rfl⟩ ⟨_, ho, rfl⟩ F.sub_tuple_dict F.slot_dict_ne q)
    (fun _ q => call_meets F.slot_tuple_ne_refl ⟨_, ho, rfl⟩ F.entry_tuple_ne (F.args_tuple_ne_2 _ _) (tuple_ne_dict l d items m dd sl es n) ⟨ho, hd, q⟩) (fun _ q => wpAny_isSame_ref_other ne hd ho (by simp) q) (.inr hu) h
theorem RcNe.tuple_dict {l : Addr} {items : Array Value} (hd : s.heap.get? d = some (DObj es n)) (hl : s.heap.IsTuple l items) (hu : A.units < cLine) : RcNeAt A s (.ref l) (.ref d) true := fun prog w E Q h => by
  obtain ⟨⟨cls, dd, data, sl⟩, ho, hc, m, hdt⟩ := id hl
  simp only at hc hdt
  subst hc hdt
  have ne : l ≠ d := fun e => by rw [← e, ho] at hd; simp at hd
  exact rc_ne_decline_or (k := false) ⟨_, ho, rfl⟩ ⟨_, hd, rfl⟩ (by decide) F.sub_dict_tuple F.slot_tuple_ne F.slot_dict_ne_refl (fun _ q => call_meets F.slot_tuple_ne ⟨_, ho, rfl⟩ F.entry_tuple_ne (F.args_tuple_ne_2 _ _) (tuple_ne_dict l d items m dd sl es n) ⟨ho, hd, q⟩)
    (fun _ q => dict_ne_declines ⟨_, hd, rfl⟩ ⟨_, ho, rfl⟩ F.sub_tuple_dict F.slot_dict_ne_refl q) (fun _ q => wpAny_isSame_ref_other' ne ho hd (by simp) q) (.inr hu) h
end
end PySem.SeqAt
namespace Ah
open PySem PySem.Spec PyProof.Rows L2
open PySem.SeqAt (RcNeAt)
section
variable {X : Cx}
theorem dict0_obj {pins : List (Addr × Obj)} {σ : L2.St} {H : Hp} {s : Shared} {a : Addr} (I : Inv X pins σ H s) (h : Rd H a (.dK [])) : (∃ es n, s.heap.get? a = some (PySem.SeqAt.DObj es n)) ∧ (a == sysModules) = false ∧ s.heap.DictOf (mixKind X.prog X.w) a [] := by
  obtain ⟨_, hs, vs, kv, hd⟩ := dk_rd I.hok h
  cases kv
  obtain ⟨o, es, ep, h1, ⟨h2, h3, h4⟩, h5, _⟩ := id hd
  refine ⟨⟨es, ep, ?_⟩, hs, hd⟩
  rw [h1]
  cases o
  simp only at h2 h3 h4 h5
  subst h2 h3 h4 h5
  rfl
theorem dict0_any {P P' : Program} {w w' : World} {h : Heap} {a : Addr} (d : h.DictOf (mixKind P w) a []) : h.DictOf (mixKind P' w') a [] := by
  obtain ⟨o, es, ep, h1, h2, h3, h4, h5, h6⟩ := d
  have e : es = #[] := by
    cases es with
    | mk l =>
      cases l with
      | nil => rfl
      | cons x r => exact absurd h5 (by intro z; cases z)
  subst e
  exact ⟨o, _, ep, h1, h2, h3, fun e he => absurd he (by simp), .nil, h6⟩
/-- a thing that an empty dict is compared with -/
inductive Oth (K : PySem.W.Frag) (H : Hp) : V → Prop
  | non : Oth K H .non
  | int (i : Int) : Oth K H (.int i)
  | str (x : Str) : Oth K H (.str x)
  | lst {a : Addr} {xs : List V} : SqL K H a xs → Oth K H (.ref a)
  | tup {a : Addr} {xs : List V} : SqT K H a xs → Oth K H (.ref a)
/-- a != b: an empty dict and another thing; two lists of an empty dict each; two empty dicts -/
def rNeE (K : PySem.W.Frag) : R2 := fun x y H Q => (∃ a, x = .ref a ∧ Rd H a (.dK []) ∧ Oth K H y ∧ Q (.bl true) H) ∨ (∃ a, y = .ref a ∧ Rd H a (.dK []) ∧ Oth K H x ∧ Q (.bl true) H) ∨
  (∃ a b, x = .ref a ∧ y = .ref b ∧ Rd H a (.dK []) ∧ Rd H b (.dK []) ∧ Q (.bl false) H) ∨ ∃ a b p q, x = .ref a ∧ y = .ref b ∧ SqL K H a [.ref p] ∧ SqL K H b [.ref q] ∧ Rd H p (.dK []) ∧ Rd H q (.dK []) ∧ Q (.bl false) H
theorem op_neE (hu : X.A.units + 64 < cLine) : OpR X (compareOp .NotEq) (rNeE X.K) := by
  intro pins s σ H x y v u Q I rx ry h
  have hu0 : X.A.units < cLine := by omega
  rcases h with ⟨a, rfl, ha, ho, q⟩ | ⟨a, rfl, ha, ho, q⟩ | ⟨a, b, rfl, rfl, ha, hb, q⟩ | ⟨a, b, p, q', rfl, rfl, la, lb, hp, hq, q⟩
  · obtain rfl : v = Value.ref a := rx
    obtain ⟨⟨es, n, hd⟩, _⟩ := dict0_obj I ha
    have fin : EP X pins σ Q (.bool true) s := ⟨.bl true, H, I, rfl, q⟩
    cases ho with
    | non =>
      obtain rfl : u = Value.none := ry
      exact PySem.SeqAt.RcNe.dict_none hd hu0 _ _ _ _ fin
    | int i =>
      obtain ⟨t, rfl⟩ := ry
      exact PySem.SeqAt.RcNe.dict_int i t hd hu0 _ _ _ _ fin
    | str z =>
      obtain ⟨t, rfl⟩ := ry
      exact PySem.SeqAt.RcNe.dict_str z t hd hu0 _ _ _ _ fin
    | lst hs =>
      cases ry
      obtain ⟨its, _, pl, _⟩ := I.list hs
      exact PySem.SeqAt.RcNe.dict_list hd pl.isList hu0 _ _ _ _ fin
    | tup hs =>
      cases ry
      obtain ⟨its, _, pl, _⟩ := I.tuple hs
      exact PySem.SeqAt.RcNe.dict_tuple hd (show s.heap.IsTuple _ its.toArray from pl) hu0 _ _ _ _ fin
  · obtain rfl : u = Value.ref a := ry
    obtain ⟨⟨es, n, hd⟩, _⟩ := dict0_obj I ha
    have fin : EP X pins σ Q (.bool true) s := ⟨.bl true, H, I, rfl, q⟩
    cases ho with
    | non =>
      obtain rfl : v = Value.none := rx
      exact PySem.SeqAt.RcNe.none_dict hd hu0 _ _ _ _ fin
    | int i =>
      obtain ⟨t, rfl⟩ := rx
      exact PySem.SeqAt.RcNe.int_dict i t hd hu0 _ _ _ _ fin
    | str z =>
      obtain ⟨t, rfl⟩ := rx
      exact PySem.SeqAt.RcNe.str_dict z t hd hu0 _ _ _ _ fin
    | lst hs =>
      cases rx
      obtain ⟨its, _, pl, _⟩ := I.list hs
      exact PySem.SeqAt.RcNe.list_dict hd pl.isList hu0 _ _ _ _ fin
    | tup hs =>
      cases rx
      obtain ⟨its, _, pl, _⟩ := I.tuple hs
      exact PySem.SeqAt.RcNe.tuple_dict hd (show s.heap.IsTuple _ its.toArray from pl) hu0 _ _ _ _ fin
  · obtain rfl : v = Value.ref a := rx
    obtain rfl : u = Value.ref b := ry
    obtain ⟨_, sa, da⟩ := dict0_obj I ha
    obtain ⟨_, sb, db⟩ := dict0_obj I hb
    exact PySem.W.keq_ne (r := true) sa sb da db hu0 (fun _ => .nil) ⟨.bl false, H, I, rfl, q⟩
  · cases rx
    cases ry
    obtain ⟨its, rv, pl, _⟩ := I.list la
    obtain ⟨its2, rv2, pl2, _⟩ := I.list lb
    obtain ⟨_, sa, da⟩ := dict0_obj I hp
    obtain ⟨_, sb, db⟩ := dict0_obj I hq
    obtain ⟨w1, rfl, r1⟩ := vals1 rv
    obtain ⟨w2, rfl, r2⟩ := vals1 rv2
    cases r1
    cases r2
    have eq : PySem.SeqAt.EqAt X.A.in1 s (.ref p) (.ref q') true := by
      by_cases hpq : p = q'
      · rw [hpq]
        exact PySem.SeqAt.EqAt.same _
      · refine PySem.SeqAt.EqAt.of_refs hpq fun prog w E Q h => ?_
        have hu1 : X.A.in1.units < cLine := by
          have : X.A.in1.units = X.A.units + 1 := rfl
          omega
        exact PySem.W.keq_eq (r := true) sa sb (dict0_any (P' := prog) (w' := w) da) (dict0_any (P' := prog) (w' := w) db) hu1 (fun _ => .nil) h
    refine PySem.SeqAt.RcNeAt.lists (e := fun _ => true) pl.isList pl2.isList rfl hu0 (fun j h1 h2 => ?_) _ _ _ _ ?_
    · have : j = 0 := by have : j < 1 := h1; omega
      subst this
      exact eq
    · exact ⟨.bl false, H, I, rfl, q⟩
end
end Ah
set_option Elab.async false
set_option linter.all false
set_option maxRecDepth 100000
set_option maxHeartbeats 4000000
namespace Ah
open PySem PySem.Spec PyProof.Rows L2
abbrev sFar : Stmt := topS 15
abbrev sBetween : Stmt := topS 14
section
variable {X : Cx} {pos : Pos}
/-- {} as a known object -/
def tDNewF : TE := fun _ H Q => ∀ (p : Addr) (o : Obj), H p = none → Q (.ref p) (upd H p (.frz o (.dK [])))
theorem pe_dnewF : PE X (.Dict [] [] pos) tDNewF := ⟨fun pins s σ H Q I h => by
  refine wpAny_Dict_empty ⟨.ref s.heap.objs.size, _, I.laid (a := s.heap.objs.size) (o := .frz { cls := .type "dict", data := .dict #[] } (.dK [])) (t' := s.toks) (fun _ _ q => Heap.get?_push_of_some _ q) (Nat.le_refl _) ?_, rfl, h _ _ (I.hok.fresh (Nat.le_refl _))⟩
  exact ⟨Heap.get?_push_size _ rfl, dk_empty s.heap I.big⟩⟩
end
theorem due_none3 {d1 d2 d3 : Th} (h : dueRows [d1, d2, d3] = none) : ∃ xs ys zs, d1 = .tup xs ∧ d2 = .tup ys ∧ d3 = .tup zs ∧ AreHands xs ∧ ys.Perm xs ∧ zs.Perm xs := by
  by_cases hh : d1.isHands
  · rw [dueRows_yes hh, List.find?_eq_none] at h
    have r : ∀ d ∈ [d1, d2, d3], IsRow d1.names d := fun d hd => by simpa using h d hd
    have r1 := r d1 (by simp)
    have r2 := r d2 (by simp)
    have r3 := r d3 (by simp)
    cases d1 with
    | oth o => exact hh.elim
    | lst xs => exact r1.elim
    | tup xs =>
      cases d2 with
      | oth o => exact r2.elim
      | lst ys => exact r2.elim
      | tup ys =>
        cases d3 with
        | oth o => exact r3.elim
        | lst ys => exact r3.elim
        | tup zs => exact ⟨xs, ys, zs, rfl, rfl, rfl, hh, perm_of_sub hh.2.2.2 r2.1.symm r2.2, perm_of_sub hh.2.2.2 r3.1.symm r3.2⟩
  · rw [dueRows_no hh] at h
    cases h
theorem due_good3 {xs ys zs : List Str} (h : AreHands xs) (p : ys.Perm xs) (q : zs.Perm xs) : dueRows [.tup xs, .tup ys, .tup zs] = none := by
  rw [dueRows_yes (show (Th.tup xs).isHands from h), List.find?_eq_none]
  intro d hd
  have r1 : IsRow (Th.tup xs).names (.tup xs) := ⟨rfl, fun _ h => h⟩
  have r2 : IsRow (Th.tup xs).names (.tup ys) := ⟨p.length_eq, fun x hx => p.mem_iff.mpr hx⟩
  have r3 : IsRow (Th.tup xs).names (.tup zs) := ⟨q.length_eq, fun x hx => q.mem_iff.mpr hx⟩
  rcases (by simpa using hd : d = .tup xs ∨ d = .tup ys ∨ d = .tup zs) with rfl | rfl | rfl
  · simpa using r1
  · simpa using r2
  · simpa using r3
section
variable {P : Program} {w : World} {K : PySem.W.Frag} {mg : Str → Option Value} {base : Heap}
theorem scFar : FnScope ["one", "other"] ["one", "other"] (defScope sFar) := ⟨rfl, rfl, rfl, by decide +kernel, rfl, by decide +kernel, by decide +kernel⟩
theorem scBetween : FnScope ["one", "other", "row"] ["one", "other", "row"] (defScope sBetween) := ⟨rfl, rfl, rfl, by decide +kernel, rfl, by decide +kernel, by decide +kernel⟩
def spFar : Sp := fun vs H Q _ => ∃ (r g : Addr) (xs ys : List Str), vs = [.ref r, .ref g] ∧ Rd H r (.tup (xs.map V.str)) ∧ Rd H g (.tup (ys.map V.str)) ∧ xs.length ≤ 30 ∧ ys.length ≤ 30 ∧ ys.Nodup ∧ (∀ x ∈ xs, x ∈ ys) ∧ ∀ H', Same H H' → Q (.int (away xs ys : Nat)) H'
theorem ok_far {f f1 : Addr} {fd fd1 : FuncData} (F : Fun K "far" "far" sFar f fd) (B : Blt2 mg) (D : Df P w K mg base CX0 "turned_pairs" 1 f1 fd1 ["one", "other"] spPairs) : FnOk P w K mg base CX0 2 f fd ["one", "other"] spFar := by
  refine F.ok scFar (fun vs H Q E h => ?_) (fun cdv A outer s H vs Q E hr h => ?_)
  · obtain ⟨r, g, xs, ys, rfl, _⟩ := h
    rfl
  · obtain ⟨r, g, xs, ys, rfl, h1, h2, h3, h4, h5, h6, k⟩ := h
    have nd := scFar.nd
    refine ⟨_, pss_one (ps_ret (pe_callB call_len_seq (by rfl) B.len PySem.boot_len (pa_cons (pe_call D.ok hr rfl D.g D.kp D.b .nil pass0 (pa_cons (pv 0) (pa_cons (pv 1) pa_nil))) pa_nil))), ?_⟩
    refine ⟨_, rfl, _, rfl, r, g, xs, ys, rfl, h1, h2, h3, h4, h5, h6, fun b H' zs s e l => ⟨b, zs, rfl, .inl (SqL.of e), ?_⟩⟩
    rw [l]
    exact k H' s
def spBetween (C : Addr) : Sp := fun vs H Q E => ∃ (v1 v2 v3 : V) (d1 d2 d3 : Th), vs = [v1, v2, v3] ∧ ThsAt H [v1, v2, v3] [d1, d2, d3] ∧
  (∀ d, dueRows [d1, d2, d3] = some d → ∀ (x : Addr) (v : V) (H' : Hp), Same H H' → H x = none → H' x = some (.xd [(("asked" : Str), v)]) → ThAt H' v d → E (.ref C) (some x) H') ∧
  ∀ xs ys zs, d1 = .tup xs → d2 = .tup ys → d3 = .tup zs → AreHands xs → ys.Perm xs → zs.Perm xs → ∀ H', Same H H' → Q (.bl (decide (away xs zs + away zs ys = away xs ys))) H'
theorem ok_between {f C f1 f2 : Addr} {fd fd1 fd2 : FuncData} (F : Fun K "is_between" "is_between" sBetween f fd) (D1 : Df P w K mg base (L2.CX P w) "check_rows" 4 f1 fd1 ["rows"] (spCheck C)) (D2 : Df P w K mg base CX0 "far" 2 f2 fd2 ["one", "other"] spFar) :
    FnOk P w K mg base (L2.CX P w) 5 f fd ["one", "other", "row"] (spBetween C) := by
  refine F.okX scBetween (fun vs H Q E h => ?_) (fun cdv A outer s H vs Q E hr h => ?_)
  · obtain ⟨v1, v2, v3, d1, d2, d3, rfl, _⟩ := h
    rfl
  · obtain ⟨v1, v2, v3, d1, d2, d3, rfl, hts, re, k⟩ := h
    have nd := scBetween.nd
    have hr2 : Room 2 _ := hr.mono (by decide)
    refine ⟨_, pss_cons (ps_expr (pe_call D1.ok hr rfl D1.g D1.kp D1.b .nil (passes_call (W := fun cls d _ H => E cls d H) (takes_of rfl rfl rfl rfl) fun _ _ _ _ h => h) (pa_cons (pe_tup (pa_cons (pv 0) (pa_cons (pv 1) (pa_cons (pv 2) pa_nil)))) pa_nil)))
      (pss_one (ps_ret (pe_cmpR op_eq (pe_op op_add (pe_call D2.ok hr2 rfl D2.g D2.kp D2.b .nil pass0 (pa_cons (pv 0) (pa_cons (pv 2) pa_nil))) (pe_call D2.ok hr2 rfl D2.g D2.kp D2.b .nil pass0 (pa_cons (pv 2) (pa_cons (pv 1) pa_nil)))) (pe_call D2.ok hr2 rfl D2.g D2.kp D2.b .nil pass0 (pa_cons (pv 0) (pa_cons (pv 1) pa_nil))) (nomark _)))), ?_⟩
    obtain ⟨t1, ⟨g1, z1⟩, t2, ⟨g2, z2⟩, t3, ⟨g3, z3⟩, _⟩ := id hts
    refine ⟨_, rfl, _, rfl, _, rfl, by simp [sizeLine_eq], fun T hT => ?_⟩
    have sT : Same H (upd H T (.tup [v1, v2, v3])) := same_new hT
    refine ⟨T, v1, [v2, v3], d1, [d2, d3], rfl, .inl upd_same, ⟨t1.same sT, ⟨g1, z1.same sT⟩, t2.same sT, ⟨g2, z2.same sT⟩, t3.same sT, ⟨g3, z3.same sT⟩, trivial⟩, fun due H1 s1 => ?_, fun d hd x v H' s' hx ex tx => ?_⟩
    · obtain ⟨xs, ys, zs, rfl, rfl, rfl, ah, py, pz⟩ := due_none3 due
      obtain ⟨a1, rfl, r1⟩ := t1
      obtain ⟨a2, rfl, r2⟩ := t2
      obtain ⟨a3, rfl, r3⟩ := t3
      have s01 := sT.trans s1
      have l1 := ah.2.1
      have ly := py.length_eq
      have lz := pz.length_eq
      have ndy : ys.Nodup := py.nodup_iff.mpr ah.2.2.2
      have ndz : zs.Nodup := pz.nodup_iff.mpr ah.2.2.2
      refine ⟨_, rfl, _, rfl, a1, a3, xs, zs, rfl, rd_same s01 r1, rd_same s01 r3, by omega, by omega, ndz, fun x h => pz.mem_iff.mpr h, fun H2 s2 => ?_⟩
      have s02 := s01.trans s2
      refine ⟨_, rfl, _, rfl, a3, a2, zs, ys, rfl, rd_same s02 r3, rd_same s02 r2, by omega, by omega, ndy, fun x h => py.mem_iff.mpr (pz.mem_iff.mp h), fun H3 s3 => ?_⟩
      have s03 := s02.trans s3
      refine ⟨_, _, rfl, rfl, _, rfl, _, rfl, a1, a2, xs, ys, rfl, rd_same s03 r1, rd_same s03 r2, by omega, by omega, ndy, fun x h => py.mem_iff.mpr h, fun H4 s4 => ⟨rfl, ?_⟩⟩
      have e : decide (V.int ((away xs zs : Nat) + (away zs ys : Nat) : Int) = V.int ((away xs ys : Nat) : Int)) = decide (away xs zs + away zs ys = away xs ys) := by
        by_cases q : away xs zs + away zs ys = away xs ys
        · rw [decide_eq_true q, decide_eq_true (by rw [← q]; rfl)]
        · rw [decide_eq_false q, decide_eq_false fun z => q (by have := V.int.inj z; omega)]
      rw [e]
      exact k xs ys zs rfl rfl rfl ah py pz H4 (s03.trans s4)
    · exact re d hd x v H' (sT.trans s') (none_of sT hx) ex tx
end
end Ah
set_option Elab.async false
set_option linter.all false
set_option maxRecDepth 100000
set_option maxHeartbeats 4000000
namespace Ah
open PySem PySem.Spec PyProof.Rows L2
abbrev sAmid : Stmt := topS 25
abbrev sRefused3 : Stmt := topS 26
section
variable {P : Program} {w : World} {K : PySem.W.Frag} {mg : Str → Option Value} {base : Heap}
theorem scAmid : FnScope ["pen", "one", "other", "here", "k", "places", "place"] ["pen", "one", "other"] (defScope sAmid) := ⟨rfl, rfl, rfl, by decide +kernel, rfl, by decide +kernel, by decide +kernel⟩
def spAmid : Sp := fun vs H Q _ => ∃ (p c r g : Addr) (xs ys : List Str) (n : Nat), vs = [.ref p, .ref r, .ref g] ∧ Ftp H r (xs.map V.str) ∧ Ftp H g (ys.map V.str) ∧ ys.Perm xs ∧ xs.Nodup ∧ 1 ≤ xs.length ∧ xs.length ≤ 60 ∧ PenAt H p c n ∧ n + 100 < 1000000 ∧
  ∀ (b : Addr) (hs : List Str) (H' : Hp), hs.Perm xs → Ftp H' b (hs.map V.str) → away xs hs + away hs ys = away xs ys → PenAt H' p c (n + 12) → Kp p H H' → Q (.ref b) H'
theorem ok_amid {f f1 f2 f3 : Addr} {fd fd1 fd2 fd3 : FuncData} (F : Fun K "_law_amid" "_law_amid" sAmid f fd) (B : Blt2 mg) (D : Df P w K mg base CX0 "_law_draw" 1 f1 fd1 ["pen", "many"] spDraw) (D2 : Df P w K mg base CX0 "_law_pick" 2 f2 fd2 ["pen", "some"] (spPick K)) (D3 : Df P w K mg base CX0 "_law_changed" 1 f3 fd3 ["row", "place"] spExchF) :
    FnOk P w K mg base CX0 3 f fd ["pen", "one", "other"] spAmid := by
  refine F.ok scAmid (fun vs H Q E h => ?_) (fun cdv A outer s H vs Q E hr h => ?_)
  · obtain ⟨p, c, r, g, xs, ys, n, rfl, _⟩ := h
    rfl
  · obtain ⟨p, c, r, g, xs, ys, n, rfl, hf, hg, py, ndx, h1, hl, hp, hn, k⟩ := h
    have nd := scAmid.nd
    have hr1 : Room 1 _ := hr.mono (by decide)
    refine ⟨_, pss_cons (ps_set (i := 3) nd rfl (.inr rfl) (pv 1))
      (pss_cons (ps_for PassesOwn.never rfl (pi_range1 rfl B.range (pa_cons (pe_call D.ok hr1 rfl D.g D.kp D.b .nil pass0 (pa_cons (pv 0) (pa_cons pe_int pa_nil))) pa_nil)) (pg_name (i := 4) nd rfl (.inl rfl))
        (pss_cons (ps_setLc (i := 5) (own := [("place", 6)]) (g := gName 6) (tt := tTest (tOp (rI0 fun i j => .bl (decide (j < i))) (tTix K (tVar 2) (tCons (tOp (rIxT K) (tVar 3) (tVar 6)) tNil)) (tTix K (tVar 2) (tCons (tOp (rIxT K) (tVar 3) (tOp (rI0 fun i j => .int (i + j)) (tVar 6) (tC (.int 1)))) tNil)))) rfl nd rfl rfl (by rfl)
            (pi_range1 rfl B.range (pa_cons (pe_op op_sub (pe_callB call_len_seq (by rfl) B.len PySem.boot_len (pa_cons (pv 3) pa_nil)) pe_int) pa_nil)) (blkOk_by (N := ["pen", "one", "other", "here", "k", "places", "place"]) (sc := defScope sAmid) (by decide +kernel)) (fun _ _ _ _ _ => pg_name (i := 6) nd rfl (Or.inl rfl))
            (fun _ _ _ _ _ => pts_one (pt_cmpR op_gt (pe_tix (pv 2) (pa_cons (pe_ix (r := rIxT K) ix_tup (pv 3) (pv 6) (fun _ _ => rfl)) pa_nil)) (pe_tix (pv 2) (pa_cons (pe_ix (r := rIxT K) ix_tup (pv 3) (pe_op op_add (pv 6) pe_int) (fun _ _ => rfl)) pa_nil)) (nomark _))) (fun _ _ _ _ _ => pv 6))
        (pss_one (ps_if (pt_cmpR (op_neD hr.units) (pv 5) (pe_lst pa_nil) (nomark _))
          (pss_one (ps_set (i := 3) nd rfl (.inr rfl) (pe_call D3.ok hr1 rfl D3.g D3.kp D3.b .nil pass0 (pa_cons (pv 3) (pa_cons (pe_call D2.ok hr rfl D2.g D2.kp D2.b .nil pass0 (pa_cons (pv 0) (pa_cons (pv 5) pa_nil))) pa_nil))))) pss_nil))))
      (pss_one (ps_ret (pv 3)))), ?_⟩
    obtain ⟨kvs, hk⟩ := hp.dk
    have ly := py.length_eq
    have ndy : ys.Nodup := py.nodup_iff.mpr ndx
    refine ⟨_, rfl, _, rfl, p, c, 12, n, rfl, hp, by omega, by decide, by decide, fun d H1 d0 d12 hp1 kp1 => ⟨d, rfl, by omega, by omega, ?_⟩⟩
    obtain ⟨j, rfl⟩ : ∃ j : Nat, d = j := ⟨d.toNat, by omega⟩
    rw [Int.toNat_natCast]
    refine for_range (lo := 0) (n := j) (fun i σ H3 => ∃ (o4 o5 : Option V) (b : Addr) (hs : List Str), σ = [some (.ref p), some (.ref r), some (.ref g), some (.ref b), o4, o5, none] ∧ hs.Perm xs ∧ Ftp H3 b (hs.map V.str) ∧ Ftp H3 g (ys.map V.str) ∧ away xs hs + away hs ys = away xs ys ∧ PenAt H3 p c (n + 1 + i) ∧ Kp p H H3)
      ⟨none, none, r, xs, rfl, .refl _, ftp_kp kp1 hk hf, ftp_kp kp1 hk hg, by rw [away_self ndx, Nat.zero_add], hp1, kp1⟩ ?_ ?_
    · rintro i σ H3 hi ⟨o4, o5, b, hs, rfl, ph, fb, fg, aw, hp3, kp3⟩
      have lh := ph.length_eq
      have lm : (hs.map V.str).length = hs.length := List.length_map ..
      refine ⟨_, rfl, b, hs.map V.str, rfl, .inr (.inl fb.rd), _, _, rfl, rfl, _, rfl, by omega, by omega, fun D0 hD0 => ?_⟩
      have hN : ((((hs.map V.str).length : Nat) : Int) - 1).toNat = hs.length - 1 := by omega
      rw [hN]
      have hin : ∀ x ∈ hs, x ∈ ys := fun x z => py.mem_iff.mpr (ph.mem_iff.mp z)
      refine lc_range (lo := 0) (n := hs.length - 1) (fun i H2 => Same H3 H2 ∧ H2 D0 = some (.lst (((List.range i).filter fun k => decide (ys.idxOf (hs.getD (k + 1) default) < ys.idxOf (hs.getD k default))).map fun k => V.int (k : Nat)))) ⟨same_new hD0, upd_same⟩ ?_ ?_
      · rintro m H2 hm ⟨p1, p2⟩
        have g1 : hs[m + 1]? = some (hs.getD (m + 1) default) := getD_at (by omega)
        have g0 : hs[m]? = some (hs.getD m default) := getD_at (by omega)
        have m1 := hin _ (List.mem_of_getElem? g1)
        have m0 := hin _ (List.mem_of_getElem? g0)
        have fb2 := fb.same p1
        have fg2 := fg.same p1
        have e1 : (0 : Int) + (m : Int) + 1 = ((m + 1 : Nat) : Int) := by omega
        have e0 : (0 : Int) + (m : Int) = ((m : Nat) : Int) := by omega
        refine ⟨rfl, _, rfl, g, ys.map V.str, rfl, fg2, _, rfl, _, rfl, b, hs.map V.str, _, .str (hs.getD m default), rfl, rfl, .inl fb2.rd, (by rw [e0]; exact atI_nat (by rw [List.getElem?_map, g0]; rfl)), ys, hs.getD m default, ys.idxOf (hs.getD m default), rfl, .inl fg2.rd, idx_at m0, idx_first ndy m0, ?_⟩
        refine ⟨_, rfl, g, ys.map V.str, rfl, fg2, _, rfl, _, rfl, _, _, rfl, rfl, b, hs.map V.str, _, .str (hs.getD (m + 1) default), rfl, rfl, .inl fb2.rd, (by rw [e1]; exact atI_nat (by rw [List.getElem?_map, g1]; rfl)), ys, hs.getD (m + 1) default, ys.idxOf (hs.getD (m + 1) default), rfl, .inl fg2.rd, idx_at m1, idx_first ndy m1, _, _, rfl, rfl, _, rfl, ?_⟩
        have ec : decide (((ys.idxOf (hs.getD (m + 1) default) : Nat) : Int) < ((ys.idxOf (hs.getD m default) : Nat) : Int)) = decide (ys.idxOf (hs.getD (m + 1) default) < ys.idxOf (hs.getD m default)) := by simp
        rw [ec]
        by_cases q : ys.idxOf (hs.getD (m + 1) default) < ys.idxOf (hs.getD m default)
        · rw [decide_eq_true q]
          refine iteT ⟨_, rfl, _, p2, ?_, same_mut p1 hD0, ?_⟩
          · rw [List.length_map]
            exact small1000 (Nat.le_trans (List.length_filter_le _ _) (by rw [List.length_range]; omega))
          · rw [upd_same, List.range_succ, List.filter_append, List.map_append, List.filter_cons, decide_eq_true q, e0]
            rfl
        · rw [decide_eq_false q]
          refine iteF ⟨p1, ?_⟩
          rw [p2, List.range_succ, List.filter_append, List.map_append, List.filter_cons, decide_eq_false q]
          simp
      · rintro H2 ⟨p1, p2⟩
        have p2' : H2 D0 = some (.lst ((descs hs ys).map fun k => V.int (k : Nat))) := p2
        have em : ((descs hs ys).map fun k => V.int (k : Nat)) = ((descs hs ys).map fun k => ((k : Nat) : Int)).map V.int := by rw [List.map_map]; rfl
        have ld : (descs hs ys).length ≤ 60 := Nat.le_trans (List.length_filter_le _ _) (by rw [List.length_range]; omega)
        have fb2 := fb.same p1
        have fg2 := fg.same p1
        have hp2 := hp3.keep p1
        have kp2 := kp3.trans (Kp.same p1)
        refine ⟨_, rfl, Nat.zero_le _, fun L hL => ?_⟩
        have sL : Same H2 (upd H2 L (.lst [])) := same_new hL
        refine ⟨.list (((descs hs ys).map fun k => ((k : Nat) : Int)).map PyData.int), .list [], .lst (SqL.of (sL _ _ (em ▸ p2'))) (dp_ints _), .lst (SqL.of upd_same) .nil, shp_ints _, (by decide), _, rfl, ?_⟩
        rw [eqv_nil, List.isEmpty_map]
        cases ed : descs hs ys with
        | nil => exact iteF ⟨_, _, b, hs, rfl, ph, fb2.same sL, fg2.same sL, aw, (hp2.keep sL).mono (by omega), kp2.trans (Kp.same sL)⟩
        | cons k0 rest =>
          refine iteT ⟨_, rfl, _, rfl, _, rfl, p, c, .ref D0, (descs hs ys).map fun k => V.int (k : Nat), _, rfl, .inl ⟨D0, rfl, SqL.of (sL _ _ p2')⟩, hp2.keep sL, by omega, by rw [ed]; exact Nat.succ_pos _, by rw [List.length_map]; omega, fun ix y H5 hy hp5 kp5 => ?_⟩
          rw [List.getElem?_map] at hy
          obtain ⟨t, ht, rfl⟩ := Option.map_eq_some_iff.mp hy
          obtain ⟨m1, m2⟩ := List.mem_filter.mp (List.mem_of_getElem? ht)
          have m1' := List.mem_range.mp m1
          obtain ⟨kvs2, hk2⟩ := (hp2.keep sL).dk
          have fb5 := ftp_kp kp5 hk2 (fb2.same sL)
          have fg5 := ftp_kp kp5 hk2 (fg2.same sL)
          refine ⟨b, t, hs, rfl, fb5.rd, by omega, by omega, fun b' H6 s6 f6 => ?_⟩
          exact ⟨_, _, b', exch hs t, rfl, (exch_perm (by omega)).trans ph, f6, fg5.same s6, away_amid ndx py ph aw (by omega) (of_decide_eq_true m2), hp5.keep s6, ((kp2.trans (Kp.same sL)).trans kp5).trans (Kp.same s6)⟩
    · rintro σ H3 ⟨o4, o5, b, hs, rfl, ph, fb, fg, aw, hp3, kp3⟩
      exact ⟨_, rfl, k b hs H3 ph fb aw (hp3.mono (by omega)) kp3⟩
theorem scRefused3 : FnScope ["one", "other", "third", "found", "e"] ["one", "other", "third"] (defScope sRefused3) := ⟨rfl, rfl, rfl, by decide +kernel, rfl, by decide +kernel, by decide +kernel⟩
def spRefused3 : Sp := fun vs H Q _ => ∃ (v1 v2 v3 : V) (d1 d2 d3 d : Th), vs = [v1, v2, v3] ∧ ThsAt H [v1, v2, v3] [d1, d2, d3] ∧ dueRows [d1, d2, d3] = some d ∧ ∀ (b : Addr) (v : V) (H' : Hp), Same H H' → H' b = some (.lst [v]) → ThAt H' v d → Q (.ref b) H'
theorem ok_refused3 {f C fI f1 : Addr} {fd fd1 : FuncData} (F : Fun K "_law_refused" "_law_refused" sRefused3 f fd) (T : PySem.LowX.LowTxt K mg C fI) (D : Df P w K mg base (L2.CX P w) "is_between" 5 f1 fd1 ["one", "other", "row"] (spBetween C)) : FnOk P w K mg base CX0 6 f fd ["one", "other", "third"] spRefused3 := by
  refine F.ok scRefused3 (fun vs H Q E h => ?_) (fun cdv A outer s H vs Q E hr h => ?_)
  · obtain ⟨v1, v2, v3, d1, d2, d3, d, rfl, _⟩ := h
    rfl
  · obtain ⟨v1, v2, v3, d1, d2, d3, d, rfl, hts, due, kS⟩ := h
    have nd := scRefused3.nd
    refine ⟨_, pss_cons (ps_set (i := 3) nd rfl (Or.inl rfl) pe_non)
      (pss_cons (ps_try_as (i := 4) (tb := fun W => tDrop (tCallS (spBetween C) (WE W) (tCons (tVar 0) (tCons (tVar 1) (tCons (tVar 2) tNil))))) (ts := fun a cls d => tAsg (tLst (tCons (tByLow C a cls d (tVar 4)) tNil)) (gName 3)) (Wout := fun _ _ _ _ => False) rfl rfl nd rfl rfl ⟨rfl, by decide, Or.inl T.gC⟩ takes0
          (fun W pn xe tk _ => pss_one (ps_expr (by exact (pe_callS D.ok hr rfl D.g D.kp D.b (fun σ => passAt tk σ) (by exact (pa_cons (pv 0) (pa_cons (pv 1) (pa_cons (pv 2) pa_nil))))))))
          (fun a oe cls d pn hz hf => pss_one (ps_set (i := 3) nd rfl (Or.inl rfl) (by exact (pe_lst (pa_cons (pe_byLow T hz hf (pv 4)) pa_nil))))))
      (pss_one (ps_ret (pv 3)))), ?_⟩
    refine ⟨_, rfl, _, rfl, _, rfl, v1, v2, v3, d1, d2, d3, rfl, hts, fun d' hd x v H' s' hx ex tx => ?_, fun xs ys zs e1 e2 e3 ah py pz H' s' => ?_⟩
    · rw [due] at hd
      obtain rfl := Option.some.inj hd
      refine ⟨true, T.te, fun _ a0 _ => ?_, fun q => Bool.noConfusion q⟩
      refine ⟨_, rfl, rfl, rfl, x, v, rfl, ex, (by show 1 ≤ sizeLine; decide), fun L hL => ?_⟩
      exact ⟨_, rfl, kS L v _ (s'.trans (same_new hL)) upd_same (tx.same (same_new hL))⟩
    · subst e1 e2 e3
      rw [due_good3 ah py pz] at due
      cases due
end
end Ah
set_option Elab.async false
set_option linter.all false
set_option maxRecDepth 100000
set_option maxHeartbeats 8000000
namespace Ah
open PySem PySem.Spec PyProof.Rows L2
/-- != of any two things -/
def rNeX (K : PySem.W.Frag) : R2 := fun x y H Q => rNeD K x y H Q ∨ rNeE K x y H Q
theorem op_neX {X : Cx} (hu : X.A.units + 64 < cLine) : OpR X (compareOp .NotEq) (rNeX X.K) := (op_neD hu).or (op_neE hu)
def Od.eqd : Od → Bool
  | .dic => true
  | _ => false
def Th.dicB : Th → Bool
  | .oth .dic => true
  | _ => false
theorem Th.dicB_no {d : Th} (h : d.dicB = false) : d ≠ .oth .dic := fun e => by rw [e] at h; cases h
theorem Th.dicB_yes {d : Th} (h : d.dicB = true) : d = .oth .dic := by
  cases d with
  | oth o =>
    cases o with
    | dic => rfl
    | non => cases h
    | str x => cases h
    | int i => cases h
  | lst xs => cases h
  | tup xs => cases h
def neTh (a b : Th) : Bool := if (a.dicB || b.dicB) = true then !(a.dicB && b.dicB) else !PyData.eqv a.data b.data
theorem oth_of {K : PySem.W.Frag} {H : Hp} {v : V} {d : Th} (h : ThAt H v d) (nd : d.dicB = false) : Oth K H v := by
  cases d with
  | oth o =>
    cases o with
    | dic => cases nd
    | non => cases (show v = .non from h); exact .non
    | str x => cases (show v = .str x from h); exact .str x
    | int i => cases (show v = .int i from h); exact .int i
  | lst xs => obtain ⟨a, rfl, h⟩ := h; exact .lst (SqL.of h)
  | tup xs => obtain ⟨a, rfl, h⟩ := h; exact .tup (.inl h)
theorem ne_th {K : PySem.W.Frag} {H : Hp} {u v : V} {a b : Th} {Q : VK} (hu : ThAt H u a) (hv : ThAt H v b) (oa : a.okd) (ob : b.okd) (k : Q (.bl (neTh a b)) H) : rNeX K u v H Q := by
  unfold neTh at k
  cases ea : a.dicB with
  | true =>
    rw [ea] at k
    have e1 := Th.dicB_yes ea
    subst e1
    obtain ⟨p, rfl, hp⟩ := (show ∃ a, u = .ref a ∧ Rd H a (.dK []) from hu)
    cases eb : b.dicB with
    | true =>
      rw [eb] at k
      have e2 := Th.dicB_yes eb
      subst e2
      obtain ⟨q, rfl, hq⟩ := (show ∃ a, v = .ref a ∧ Rd H a (.dK []) from hv)
      exact .inr (.inr (.inr (.inl ⟨p, q, rfl, rfl, hp, hq, k⟩)))
    | false =>
      rw [eb] at k
      exact .inr (.inl ⟨p, rfl, hp, oth_of hv eb, k⟩)
  | false =>
    rw [ea] at k
    cases eb : b.dicB with
    | true =>
      rw [eb] at k
      have e2 := Th.dicB_yes eb
      subst e2
      obtain ⟨q, rfl, hq⟩ := (show ∃ a, v = .ref a ∧ Rd H a (.dK []) from hv)
      exact .inr (.inr (.inl ⟨q, rfl, hq, oth_of hu ea, k⟩))
    | false =>
      rw [eb] at k
      obtain ⟨c1, c2⟩ := data_shp oa (Th.dicB_no ea)
      obtain ⟨c3, c4⟩ := data_shp ob (Th.dicB_no eb)
      have sh : ∀ {d : Th}, d.okd → d.dicB = false → SeqAt.shaped d.data = true := fun {d} o n => by
        obtain ⟨x1, x2⟩ := data_shp o (Th.dicB_no n)
        unfold SeqAt.shaped
        rw [x1, decide_eq_true (Nat.le_trans x2 (by decide : 60 ≤ 64))]
        rfl
      exact .inl ⟨a.data, b.data, hu.dp (Th.dicB_no ea), hv.dp (Th.dicB_no eb), sh oa ea, sh ob eb, k⟩
/-- [..] != [..], the same things -/
theorem ne_sameX {K : PySem.W.Frag} {H : Hp} {b c : Addr} {u v : V} {d : Th} {Q : VK} (hb : H b = some (.lst [u])) (hc : H c = some (.lst [v])) (hu : ThAt H u d) (hv : ThAt H v d) (ok : d.okd) (k : Q (.bl false) H) : rNeX K (.ref b) (.ref c) H Q := by
  cases ed : d.dicB with
  | true =>
    have e := Th.dicB_yes ed
    subst e
    obtain ⟨p, rfl, hp⟩ := (show ∃ a, u = .ref a ∧ Rd H a (.dK []) from hu)
    obtain ⟨q, rfl, hq⟩ := (show ∃ a, v = .ref a ∧ Rd H a (.dK []) from hv)
    exact .inr (.inr (.inr (.inr ⟨b, c, p, q, rfl, rfl, SqL.of hb, SqL.of hc, hp, hq, k⟩)))
  | false =>
    have nd := Th.dicB_no ed
    have sh : SeqAt.shaped (.list [d.data]) = true := shp_l fun e he => by rw [List.mem_singleton.mp he]; exact data_shp ok nd
    refine .inl ⟨.list [d.data], .list [d.data], .lst (SqL.of hb) (.cons (hu.dp nd) .nil), .lst (SqL.of hc) (.cons (hv.dp nd) .nil), sh, sh, ?_⟩
    rw [data_eqv d nd]
    exact k
/-- what no row of these hands is, nor any row -/
def OddD (xs : List Str) (d : Th) : Prop := ¬ IsRow xs d ∧ (d.isHands → ¬ IsRow d.names d) ∧ d.okd
theorem odd_first {xs : List Str} {d : Th} {ds : List Th} (h : OddD xs d) : dueRows (d :: ds) = some d := by
  by_cases hh : d.isHands
  · rw [dueRows_yes hh, List.find?_cons, decide_eq_false (h.2.1 hh)]
    rfl
  · exact dueRows_no hh
theorem due_second {xs : List Str} {d : Th} {ds : List Th} (ah : AreHands xs) (n : ¬ IsRow xs d) : dueRows (.tup xs :: d :: ds) = some d := by
  have r1 : IsRow (Th.tup xs).names (.tup xs) := ⟨rfl, fun _ h => h⟩
  have n' : ¬ IsRow (Th.tup xs).names d := n
  rw [dueRows_yes (show (Th.tup xs).isHands from ah), List.find?_cons, decide_eq_true r1]
  show List.find? _ (d :: ds) = some d
  rw [List.find?_cons, decide_eq_false n']
  rfl
theorem due_third {xs ys : List Str} {d : Th} (ah : AreHands xs) (py : ys.Perm xs) (n : ¬ IsRow xs d) : dueRows [.tup xs, .tup ys, d] = some d := by
  have r1 : IsRow (Th.tup xs).names (.tup xs) := ⟨rfl, fun _ h => h⟩
  have r2 : IsRow (Th.tup xs).names (.tup ys) := ⟨py.length_eq, fun x hx => py.mem_iff.mpr hx⟩
  have n' : ¬ IsRow (Th.tup xs).names d := n
  rw [dueRows_yes (show (Th.tup xs).isHands from ah), List.find?_cons, decide_eq_true r1]
  show List.find? _ [.tup ys, d] = some d
  rw [List.find?_cons, decide_eq_true r2]
  show List.find? _ [d] = some d
  rw [List.find?_cons, decide_eq_false n']
  rfl
theorem th_kp {p : Addr} {H H' : Hp} {kvs : List (Key × V)} {v : V} {d : Th} (k : Kp p H H') (hp : H p = some (.dK kvs)) (h : ThAt H v d) (z : FrzD H v d) : ThAt H' v d ∧ FrzD H' v d := by
  cases d with
  | oth o =>
    cases o with
    | dic =>
      obtain ⟨a, o, rfl, hf⟩ := (show ∃ a o, v = .ref a ∧ H a = some (.frz o (.dK [])) from z)
      have hf' : H' a = some (.frz o (.dK [])) := k a _ (fun e => by rw [e, hp] at hf; cases hf) hf
      exact ⟨⟨a, rfl, .inr ⟨o, hf'⟩⟩, ⟨a, o, rfl, hf'⟩⟩
    | non => exact ⟨h, trivial⟩
    | str x => exact ⟨h, trivial⟩
    | int i => exact ⟨h, trivial⟩
  | lst xs =>
    obtain ⟨a, rfl, h⟩ := h
    exact ⟨⟨a, rfl, k a _ (fun e => by rw [e, hp] at h; cases h) h⟩, trivial⟩
  | tup xs =>
    obtain ⟨a, rfl, h⟩ := h
    exact ⟨⟨a, rfl, rd_kp k hp (fun _ z => by cases z) h⟩, trivial⟩
theorem ref_some3 {H : Hp} {v1 v2 v3 : V} {d1 d2 d3 d : Th} {Q : VK} {E : XK} (ts : ThsAt H [v1, v2, v3] [d1, d2, d3]) (due : dueRows [d1, d2, d3] = some d) (k : ∀ (b : Addr) (v : V) (H' : Hp), Same H H' → H' b = some (.lst [v]) → ThAt H' v d → Q (.ref b) H') : spRefused3 [v1, v2, v3] H Q E :=
  ⟨v1, v2, v3, d1, d2, d3, d, rfl, ts, due, k⟩
/-- a thing that may be handed in, with all that is asked of it -/
structure Thing (H : Hp) (v : V) (d : Th) : Prop where
  at' : ThAt H v d
  fit : d.fit
  frz : FrzD H v d
theorem Thing.same {H H' : Hp} {v : V} {d : Th} (k : Same H H') (h : Thing H v d) : Thing H' v d := ⟨h.at'.same k, h.fit, h.frz.same k⟩
theorem Thing.kp {p : Addr} {H H' : Hp} {kvs : List (Key × V)} {v : V} {d : Th} (k : Kp p H H') (hp : H p = some (.dK kvs)) (h : Thing H v d) : Thing H' v d := ⟨(th_kp k hp h.at' h.frz).1, h.fit, (th_kp k hp h.at' h.frz).2⟩
theorem ths3 {H : Hp} {v1 v2 v3 : V} {d1 d2 d3 : Th} (h1 : Thing H v1 d1) (h2 : Thing H v2 d2) (h3 : Thing H v3 d3) : ThsAt H [v1, v2, v3] [d1, d2, d3] := ⟨h1.at', ⟨h1.fit, h1.frz⟩, h2.at', ⟨h2.fit, h2.frz⟩, h3.at', ⟨h3.fit, h3.frz⟩, trivial⟩
theorem Thing.row {H : Hp} {a : Addr} {xs : List Str} (h : Rd H a (.tup (xs.map V.str))) (hx : ∀ x ∈ xs, IsHand x) (hl : xs.length ≤ 60) : Thing H (.ref a) (.tup xs) := ⟨⟨a, rfl, h⟩, ⟨by show xs.length ≤ 1000; omega, fun x z => Nat.le_trans (hx x z).2.1 (by decide)⟩, trivial⟩
theorem ref_cmp {K : PySem.W.Frag} {σ : L2.St} {m : Nat} {H : Hp} {v1 v2 v3 v : V} {d1 d2 d3 d : Th} {Q : VK} (hσ : σ[m]? = some (some v)) (t1 : Thing H v1 d1) (t2 : Thing H v2 d2) (t3 : Thing H v3 d3) (due : dueRows [d1, d2, d3] = some d) (tv : Thing H v d) (ok : d.okd) (kk : ∀ H', Same H H' → Q (.bl false) H') :
    spRefused3 [v1, v2, v3] H (fun x H1 => tLst (tCons (tVar m) tNil) σ H1 fun y H2 => rNeX K x y H2 Q) E0 := by
  refine ref_some3 (ths3 t1 t2 t3) due fun b u H' s e tu => ?_
  refine ⟨v, hσ, (by show 1 ≤ sizeLine; decide), fun L hL => ?_⟩
  exact ne_sameX ((same_new hL) _ _ e) upd_same (tu.same (same_new hL)) ((tv.at'.same s).same (same_new hL)) ok (kk _ (s.trans (same_new hL)))
theorem odd_list {xs : List Str} (ok : ∀ x ∈ xs, PyData.strOk x = true) : OddD xs (.lst xs) := ⟨fun z => z, fun _ z => z, ok, fun x e => by cases e⟩
theorem odd_oth {xs : List Str} {o : Od} (ok : ∀ x, o = .str x → PyData.strOk x = true) : OddD xs (.oth o) := ⟨fun z => z, fun z => z.elim, (fun x h => (List.not_mem_nil h).elim), fun x e => ok x (by cases e; rfl)⟩
theorem odd_twice {xs : List Str} (ok : ∀ x ∈ xs, PyData.strOk x = true) (h1 : 1 ≤ xs.length) : OddD xs (.tup (xs ++ xs.take 1)) := by
  cases xs with
  | nil => simp at h1
  | cons a r =>
    refine ⟨fun z => ?_, fun z => ?_, fun x hx => ?_, fun x e => by cases e⟩
    · have := z.1
      simp at this
    · have nd := z.2.2.2
      have := (List.nodup_append.mp nd).2.2 a (by simp) a (by simp)
      exact absurd rfl this
    · rcases List.mem_append.mp (show x ∈ (a :: r) ++ (a :: r).take 1 from hx) with q | q
      · exact ok x q
      · exact ok x (List.mem_of_mem_take q)
theorem odd_none {xs : List Str} (h1 : 1 ≤ xs.length) : OddD xs (.tup []) := ⟨fun z => by have := z.1; simp at this; omega, fun z => by have := z.1; simp at this, (fun x h => (List.not_mem_nil h).elim), fun x e => by cases e⟩
theorem neTh_non {d : Th} (h : d ≠ .oth .non) : neTh (.oth .non) d = true := by
  cases d with
  | oth o =>
    cases o with
    | non => exact absurd rfl h
    | str x => simp [neTh, Th.dicB, Th.data, Od.data, PyData.eqv]
    | int i => simp [neTh, Th.dicB, Th.data, Od.data, PyData.eqv]
    | dic => simp [neTh, Th.dicB]
  | lst xs => simp [neTh, Th.dicB, Th.data, Od.data, PyData.eqv]
  | tup xs => simp [neTh, Th.dicB, Th.data, Od.data, PyData.eqv]
theorem neTh_str {x : Str} : neTh (.oth (.str x)) (.oth .non) = true := by simp [neTh, Th.dicB, Th.data, Od.data, PyData.eqv]
end Ah
set_option Elab.async false
set_option linter.all false
set_option maxRecDepth 100000
set_option maxHeartbeats 8000000
namespace Ah
open PySem PySem.Spec PyProof.Rows L2
abbrev sLaw4 : Stmt := topS 27
theorem passX0 {P : Program} {w : World} {X : Cx} : Passes (L2.CX P w) X E0 := fun _ _ _ _ _ _ _ c => by
  obtain ⟨_, _, _, _, _, _, _, _, _, _, _, _, h⟩ := c
  exact h.elim
section
variable {P : Program} {w : World} {K : PySem.W.Frag} {mg : Str → Option Value} {base : Heap}
theorem scLaw4 : FnScope ["script", "pen", "turn", "hands", "one", "other", "amid", "third", "due", "found", "row", "odd", "thing", "far_v", "strange"] ["script"] (defScope sLaw4) := ⟨rfl, rfl, rfl, by decide +kernel, rfl, by decide +kernel, by decide +kernel⟩
def spLaw (K : PySem.W.Frag) : Sp := fun vs H Q _ => ∃ (a : Addr) (ns : List Int), vs = [.ref a] ∧ SqL K H a (ns.map V.int) ∧ ns.length ≤ 63 ∧ ∀ H', Q (.bl true) H'
structure Defs4 (P : Program) (w : World) (K : PySem.W.Frag) (mg : Str → Option Value) (base : Heap) (C : Addr) (g1 g2 g3 g4 g5 g6 g7 g8 g9 g10 : Addr) (h1 h2 h3 h4 h5 h6 h7 h8 h9 h10 : FuncData) : Prop where
  pen : Df P w K mg base CX0 "_law_pen" 1 g1 h1 ["script"] (spPen K)
  draw : Df P w K mg base CX0 "_law_draw" 1 g2 h2 ["pen", "many"] spDraw
  hands : Df P w K mg base CX0 "_law_hands" 3 g3 h3 ["pen", "many"] (spHands K)
  row : Df P w K mg base CX0 "_law_row" 3 g4 h4 ["pen", "hands"] spLawRow
  amid : Df P w K mg base CX0 "_law_amid" 3 g5 h5 ["pen", "one", "other"] spAmid
  between : Df P w K mg base (L2.CX P w) "is_between" 5 g6 h6 ["one", "other", "row"] (spBetween C)
  lturned : Df P w K mg base CX0 "_law_turned" 1 g7 h7 ["one", "other"] spLawTurned
  changed : Df P w K mg base CX0 "_law_changed" 1 g8 h8 ["row", "place"] spExchF
  pick : Df P w K mg base CX0 "_law_pick" 2 g9 h9 ["pen", "some"] (spPick K)
  refused : Df P w K mg base CX0 "_law_refused" 6 g10 h10 ["one", "other", "third"] spRefused3
theorem ok_law4 {f C g1 g2 g3 g4 g5 g6 g7 g8 g9 g10 : Addr} {fd h1 h2 h3 h4 h5 h6 h7 h8 h9 h10 : FuncData} (F : Fun K "law" "law" sLaw4 f fd) (B : Blt2 mg) (Bb : mg "bool" = none) (Bz : mg "zip" = none) (D : Defs4 P w K mg base C g1 g2 g3 g4 g5 g6 g7 g8 g9 g10 h1 h2 h3 h4 h5 h6 h7 h8 h9 h10) : FnOk P w K mg base CX0 7 f fd ["script"] (spLaw K) := by
  refine F.ok scLaw4 (fun vs H Q E h => ?_) (fun cdv A outer s H vs Q E hr h => ?_)
  · obtain ⟨a, ns, rfl, _⟩ := h
    rfl
  · obtain ⟨a, ns, rfl, ha, hl, k⟩ := h
    have nd := scLaw4.nd
    have r1 : Room 1 _ := hr.mono (by decide)
    have r2 : Room 2 _ := hr.mono (by decide)
    have r3 : Room 3 _ := hr.mono (by decide)
    have r4 : Room 4 _ := hr.mono (by decide)
    have r5 : Room 5 _ := hr.mono (by decide)
    refine ⟨_, pss_cons (ps_set (i := 1) nd rfl (.inl rfl) (pe_call D.pen.ok r1 rfl D.pen.g D.pen.kp D.pen.b .nil pass0 (pa_cons (pv 0) pa_nil)))
      (pss_cons (ps_for PassesOwn.never rfl (pi_range1 rfl B.range (pa_cons pe_int pa_nil)) (pg_name (i := 2) nd rfl (.inl rfl))
        (pss_cons (ps_set (i := 3) nd rfl (.inl rfl) (pe_call D.hands.ok r3 rfl D.hands.g D.hands.kp D.hands.b .nil pass0 (pa_cons (pv 1) (pa_cons (pe_op op_add pe_int (pe_call D.draw.ok r1 rfl D.draw.g D.draw.kp D.draw.b .nil pass0 (pa_cons (pv 1) (pa_cons pe_int pa_nil)))) pa_nil))))
        (pss_cons (ps_asg (pe_tup (pa_cons (pe_call D.row.ok r3 rfl D.row.g D.row.kp D.row.b .nil pass0 (pa_cons (pv 1) (pa_cons (pv 3) pa_nil))) (pa_cons (pe_call D.row.ok r3 rfl D.row.g D.row.kp D.row.b .nil pass0 (pa_cons (pv 1) (pa_cons (pv 3) pa_nil))) pa_nil))) (pg_tup rfl (pgs_cons (pg_name (i := 4) nd rfl (.inr rfl)) (pgs_cons (pg_name (i := 5) nd rfl (.inr rfl)) pgs_nil))))
        (pss_cons (ps_set (i := 6) nd rfl (.inl rfl) (pe_call D.amid.ok r3 rfl D.amid.g D.amid.kp D.amid.b .nil pass0 (pa_cons (pv 1) (pa_cons (pv 4) (pa_cons (pv 5) pa_nil)))))
        (pss_cons (ps_set (i := 7) nd rfl (.inl rfl) (pe_ix ix_list (pe_lst (pa_cons (pv 6) (pa_cons (pe_call D.row.ok r3 rfl D.row.g D.row.kp D.row.b .nil pass0 (pa_cons (pv 1) (pa_cons (pv 3) pa_nil))) (pa_cons (pe_revT (pv 6)) pa_nil)))) (pe_call D.draw.ok r1 rfl D.draw.g D.draw.kp D.draw.b .nil pass0 (pa_cons (pv 1) (pa_cons pe_int pa_nil))) (fun _ _ => rfl)))
        (C8.pss_cut (ps_if (PW.pt (pw_and (pt_cmpR op_gt (pe_callB call_len_seq (by rfl) B.len PySem.boot_len (pa_cons (pv 3) pa_nil)) pe_int (nomark _)) (pw_and1 (pt_cmpR op_eq (pe_call D.draw.ok r1 rfl D.draw.g D.draw.kp D.draw.b .nil pass0 (pa_cons (pv 1) (pa_cons pe_int pa_nil))) pe_int (nomark _))))) (pss_one (ps_set (i := 7) nd rfl (.inl rfl) (pe_call D.changed.ok r1 rfl D.changed.g D.changed.kp D.changed.b .nil pass0 (pa_cons (pv 7) (pa_cons (pe_call D.draw.ok r1 rfl D.draw.g D.draw.kp D.draw.b .nil pass0 (pa_cons (pv 1) (pa_cons (pe_op op_sub (pe_callB call_len_seq (by rfl) B.len PySem.boot_len (pa_cons (pv 3) pa_nil)) pe_int) pa_nil))) pa_nil))))) pss_nil)
        (pss_cons (ps_set (i := 8) nd rfl (.inl rfl) (pe_cmpR op_eq (pe_op op_add (pe_callB call_len_seq (by rfl) B.len PySem.boot_len (pa_cons (pe_call D.lturned.ok r1 rfl D.lturned.g D.lturned.kp D.lturned.b .nil pass0 (pa_cons (pv 4) (pa_cons (pv 7) pa_nil))) pa_nil)) (pe_callB call_len_seq (by rfl) B.len PySem.boot_len (pa_cons (pe_call D.lturned.ok r1 rfl D.lturned.g D.lturned.kp D.lturned.b .nil pass0 (pa_cons (pv 7) (pa_cons (pv 5) pa_nil))) pa_nil))) (pe_callB call_len_seq (by rfl) B.len PySem.boot_len (pa_cons (pe_call D.lturned.ok r1 rfl D.lturned.g D.lturned.kp D.lturned.b .nil pass0 (pa_cons (pv 4) (pa_cons (pv 5) pa_nil))) pa_nil)) (nomark _)))
        (pss_cons (ps_for PassesOwn.never rfl (pi_tup (pe_tup (pa_cons (pe_call D.between.ok r5 rfl D.between.g D.between.kp D.between.b .nil passX0 (pa_cons (pv 4) (pa_cons (pv 5) (pa_cons (pv 7) pa_nil)))) (pa_cons (pe_call D.between.ok r5 rfl D.between.g D.between.kp D.between.b .nil passX0 (pa_cons (pv 5) (pa_cons (pv 4) (pa_cons (pv 7) pa_nil)))) pa_nil)))) (pg_name (i := 9) nd rfl (.inl rfl)) (pss_one (ps_if (PW.pt (pw_or (pt_not (pt_val (pe_callB call_isi (by rfl) B.isinstance (by decide +kernel) (pa_cons (pv 9) (pa_cons (pe_bltn (v := .ty "bool") (by rfl) Bb (by decide +kernel) rfl) pa_nil))))) (pw_or1 (pt_cmpR op_ne (pv 9) (pv 8) (nomark _))))) (pss_one (ps_ret pe_bl)) pss_nil)))
        (pss_cons (ps_if (pt_cmpR (op_neD hr.units) (pe_lc (own := [("row", 10)]) (g := gName 10) (tt := tYes) rfl nd (pi_tup (pe_tup (pa_cons (pv 4) (pa_cons (pv 5) (pa_cons (pv 6) pa_nil))))) (blkOk_by (N := ["script", "pen", "turn", "hands", "one", "other", "amid", "third", "due", "found", "row", "odd", "thing", "far_v", "strange"]) (sc := defScope sLaw4) (by decide +kernel)) (fun _ _ _ _ _ => pg_name (i := 10) nd rfl (Or.inl rfl)) (fun _ _ _ _ _ => pts_nil) (fun _ _ _ _ _ => pe_call D.between.ok r5 rfl D.between.g D.between.kp D.between.b .nil passX0 (pa_cons (pv 4) (pa_cons (pv 5) (pa_cons (pv 10) pa_nil))))) (pe_lst (pa_cons pe_bl (pa_cons pe_bl (pa_cons pe_bl pa_nil)))) (nomark _)) (pss_one (ps_ret pe_bl)) pss_nil)
        (pss_cons (ps_set (i := 11) nd rfl (.inr rfl) (pe_call D.pick.ok r2 rfl D.pick.g D.pick.kp D.pick.b .nil pass0 (pa_cons (pv 1) (pa_cons (pe_lst (pa_cons pe_non (pa_cons (pe_callTy call_list_of (by rfl) B.list (by decide +kernel) (pa_cons (pv 4) pa_nil)) (pa_cons (pe_op op_catA (pv 4) (pe_slice sl_tupA (pv 4) po_none (po_some pe_int))) (pa_cons (pe_tup pa_nil) (pa_cons pe_str (pa_cons pe_int (pa_cons pe_dnewF pa_nil)))))))) pa_nil))))
        (pss_cons (ps_if (PW.pt (pw_or (pt_cmpR (op_neX hr.units) (pe_call D.refused.ok hr rfl D.refused.g D.refused.kp D.refused.b .nil pass0 (pa_cons (pv 11) (pa_cons (pv 11) (pa_cons (pv 4) pa_nil)))) (pe_lst (pa_cons (pv 11) pa_nil)) (nomark _)) (pw_or1 (pt_cmpR (op_neX hr.units) (pe_call D.refused.ok hr rfl D.refused.g D.refused.kp D.refused.b .nil pass0 (pa_cons (pv 4) (pa_cons (pv 11) (pa_cons (pv 11) pa_nil)))) (pe_lst (pa_cons (pv 11) pa_nil)) (nomark _))))) (pss_one (ps_ret pe_bl)) pss_nil)
        (pss_cons (ps_if (pt_cmpR (op_neX hr.units) (pe_call D.refused.ok hr rfl D.refused.g D.refused.kp D.refused.b .nil pass0 (pa_cons (pv 4) (pa_cons (pv 5) (pa_cons (pv 11) pa_nil)))) (pe_lst (pa_cons (pv 11) pa_nil)) (nomark _)) (pss_one (ps_ret pe_bl)) pss_nil)
        (pss_cons (ps_set (i := 13) nd rfl (.inl rfl) (pe_call D.pick.ok r2 rfl D.pick.g D.pick.kp D.pick.b .nil pass0 (pa_cons (pv 1) (pa_cons (pe_lc (own := [("thing", 12)]) (g := gName 12) (tt := tTest (tOp (rNeX K) (tVar 12) (tVar 11))) rfl nd (pi_tup (pe_tup (pa_cons pe_non (pa_cons pe_str (pa_cons pe_int (pa_cons pe_dnewF (pa_cons (pe_callTy call_list_of (by rfl) B.list (by decide +kernel) (pa_cons (pv 4) pa_nil)) pa_nil))))))) (blkOk_by (N := ["script", "pen", "turn", "hands", "one", "other", "amid", "third", "due", "found", "row", "odd", "thing", "far_v", "strange"]) (sc := defScope sLaw4) (by decide +kernel)) (fun _ _ _ _ _ => pg_name (i := 12) nd rfl (Or.inl rfl)) (fun _ _ _ _ _ => pts_one (pt_cmpR (op_neX hr.units) (pv 12) (pv 11) (nomark _))) (fun _ _ _ _ _ => pv 12)) pa_nil))))
        (pss_cons (ps_if (PW.pt (pw_or (pt_cmpR (op_neX hr.units) (pe_call D.refused.ok hr rfl D.refused.g D.refused.kp D.refused.b .nil pass0 (pa_cons (pv 11) (pa_cons (pv 13) (pa_cons (pv 4) pa_nil)))) (pe_lst (pa_cons (pv 11) pa_nil)) (nomark _)) (pw_or1 (pt_cmpR (op_neX hr.units) (pe_call D.refused.ok hr rfl D.refused.g D.refused.kp D.refused.b .nil pass0 (pa_cons (pv 4) (pa_cons (pv 11) (pa_cons (pv 13) pa_nil)))) (pe_lst (pa_cons (pv 11) pa_nil)) (nomark _))))) (pss_one (ps_ret pe_bl)) pss_nil)
        (pss_cons (ps_set (i := 14) nd rfl (.inl rfl) (pe_op op_catA (pe_slice sl_tupA (pv 4) po_none (po_some (pe_un un_neg pe_int))) (pe_tup (pa_cons (pe_op op_add_str (pe_slice sl_str (pe_ix ix_tup (pv 4) (pe_un un_neg pe_int) (fun _ _ => rfl)) po_none (po_some pe_int)) pe_str) pa_nil))))
        (pss_one (ps_if (PW.pt (pw_and (pt_cmpR op_eq (pe_callB call_lenD (by rfl) B.len PySem.boot_len (pa_cons (pe_dictZip rfl (by rfl) B.dict (by rfl) Bz (pa_cons (pv 14) (pa_cons (pv 14) pa_nil))) pa_nil)) (pe_callB call_len_seq (by rfl) B.len PySem.boot_len (pa_cons (pv 4) pa_nil)) (nomark _)) (pw_and (pt_cmpR (op_neD hr.units) (pv 14) (pv 4) (nomark _)) (pw_and1 (pt_cmpR (op_neD hr.units) (pe_callB cr_sortedTS (by rfl) B.sorted (by decide +kernel) (pa_cons (pv 14) pa_nil)) (pe_callB cr_sortedTS (by rfl) B.sorted (by decide +kernel) (pa_cons (pv 4) pa_nil)) (nomark _)))))) (pss_one (ps_if (PW.pt (pw_or (pt_cmpR (op_neX hr.units) (pe_call D.refused.ok hr rfl D.refused.g D.refused.kp D.refused.b .nil pass0 (pa_cons (pv 4) (pa_cons (pv 14) (pa_cons (pv 11) pa_nil)))) (pe_lst (pa_cons (pv 14) pa_nil)) (nomark _)) (pw_or1 (pt_cmpR (op_neX hr.units) (pe_call D.refused.ok hr rfl D.refused.g D.refused.kp D.refused.b .nil pass0 (pa_cons (pv 11) (pa_cons (pv 14) (pa_cons (pv 4) pa_nil)))) (pe_lst (pa_cons (pv 11) pa_nil)) (nomark _))))) (pss_one (ps_ret pe_bl)) pss_nil)) pss_nil)))))))))))))))))
      (pss_one (ps_ret pe_bl))), ?_⟩
    refine ⟨_, rfl, a, ns, rfl, ha, fun p c H1 hp1 => ?_⟩
    refine ⟨10, rfl, by decide, by decide, ?_⟩
    refine for_range (lo := 0) (n := 10) (fun i σ H2 => ∃ o2 o3 o4 o5 o6 o7 o8 o9 o10 o11 o12 o13 o14 : Option V, σ = [some (.ref a), some (.ref p), o2, o3, o4, o5, o6, o7, o8, o9, o10, o11, o12, o13, o14] ∧ PenAt H2 p c (300 * i)) ⟨_, _, _, _, _, _, _, _, _, _, _, _, _, rfl, hp1⟩ ?_ (fun σ H2 _ => k H2)
    rintro i σ H2 hi ⟨o2, o3, o4, o5, o6, o7, o8, o9, o10, o11, o12, o13, o14, rfl, hp2⟩
    refine ⟨_, rfl, _, rfl, p, c, 8, _, rfl, hp2, by omega, by decide, by decide, fun d H3 d0 d8 hp3 kp3 => ?_⟩
    obtain ⟨j, rfl⟩ : ∃ j : Nat, d = j := ⟨d.toNat, by omega⟩
    refine ⟨_, _, rfl, rfl, p, c, j + 1, _, by show [V.ref p, V.int ((1 : Int) + (j : Int))] = _; rw [show (1 : Int) + (j : Int) = ((j + 1 : Nat) : Int) by omega], by omega, by omega, hp3, by omega, fun q hs H4 hl4 nd4 hh4 hq4 e4 hp4 kp4 => ?_⟩
    obtain ⟨kv4, hk4⟩ := hp4.dk
    have nqp : q ≠ p := fun e => by rw [e, hk4] at e4; cases e4
    -- one, other
    refine ⟨_, rfl, _, rfl, p, c, q, hs, _, rfl, .inl e4, hh4, by omega, hp4, by omega, fun b1 xs H5 px f5 hp5 kp5 => ?_⟩
    have e5 := kp5 q _ nqp e4
    refine ⟨_, rfl, _, rfl, p, c, q, hs, _, rfl, .inl e5, hh4, by omega, hp5, by omega, fun b2 ys H6 py0 f6 hp6 kp6 => ?_⟩
    have e6 := kp6 q _ nqp e5
    obtain ⟨kv5, hk5⟩ := hp5.dk
    have g6 := ftp_kp kp6 hk5 f5
    have lx : xs.length = j + 1 := px.length_eq.trans hl4
    have hx : ∀ x ∈ xs, IsHand x := fun x z => hh4 x (px.mem_iff.mp z)
    have ndx : xs.Nodup := px.nodup_iff.mpr nd4
    have py : ys.Perm xs := py0.trans px.symm
    have ly : ys.length = j + 1 := py.length_eq.trans lx
    have ndy : ys.Nodup := py.nodup_iff.mpr ndx
    have hy : ∀ x ∈ ys, IsHand x := fun x z => hx x (py.mem_iff.mp z)
    have ah : AreHands xs := ⟨by omega, by omega, hx, ndx⟩
    have ahy : AreHands ys := ⟨by omega, by omega, hy, ndy⟩
    refine ⟨(by show 2 ≤ sizeLine; decide), fun T hT => ?_⟩
    refine ⟨T, _, rfl, .inl (.inl upd_same), rfl, _, _, rfl, _, _, rfl, rfl, ?_⟩
    have s7 : Same H6 (upd H6 T (.tup [.ref b1, .ref b2])) := same_new hT
    generalize upd H6 T (.tup [.ref b1, .ref b2]) = H7 at s7 ⊢
    have f17 := g6.same s7
    have f27 := f6.same s7
    have hp7 := hp6.keep s7
    have e7 := s7 _ _ e6
    -- amid
    refine ⟨_, rfl, _, rfl, _, rfl, p, c, b1, b2, xs, ys, _, rfl, f17, f27, py, ndx, by omega, by omega, hp7, by omega, fun b3 ms H8 pm fm am hp8 kp8 => ?_⟩
    obtain ⟨kv7, hk7⟩ := hp7.dk
    have f18 := ftp_kp kp8 hk7 f17
    have f28 := ftp_kp kp8 hk7 f27
    have e8 := kp8 q _ nqp e7
    -- third
    refine ⟨_, rfl, _, rfl, _, rfl, p, c, q, hs, _, rfl, .inl e8, hh4, by omega, hp8, by omega, fun b4 rs H9 pr fr hp9 kp9 => ?_⟩
    obtain ⟨kv8, hk8⟩ := hp8.dk
    have f19 := ftp_kp kp9 hk8 f18
    have f29 := ftp_kp kp9 hk8 f28
    have fm9 := ftp_kp kp9 hk8 fm
    have e9 := kp9 q _ nqp e8
    refine ⟨_, rfl, b3, ms.map V.str, rfl, .inl fm9.rd, newF fun b5 H10 s10 f10 => ?_⟩
    refine ⟨(by show 3 ≤ sizeLine; decide), fun L hL => ?_⟩
    have s11 : Same H9 (upd H10 L (.lst [.ref b3, .ref b4, .ref b5])) := s10.trans (same_new hL)
    have f511 := f10.same (same_new (o := .lst [.ref b3, .ref b4, .ref b5]) hL)
    have eL : (upd H10 L (.lst [.ref b3, .ref b4, .ref b5])) L = some (.lst [.ref b3, .ref b4, .ref b5]) := upd_same
    generalize upd H10 L (.lst [.ref b3, .ref b4, .ref b5]) = H11 at s11 f511 eL ⊢
    have hp11 := hp9.keep s11
    obtain ⟨kv11, hk11⟩ := hp11.dk
    refine ⟨_, rfl, p, c, 3, _, rfl, hp11, by omega, by decide, by decide, fun d H12 c0 c3 hp12 kp12 => ?_⟩
    have nLp : L ≠ p := fun e => by rw [e, hk11] at eL; cases eL
    obtain ⟨t, ts, at', ft, pt⟩ : ∃ (t : Addr) (ts : List Str), atI [V.ref b3, V.ref b4, V.ref b5] d = some (V.ref t) ∧ Ftp H12 t (ts.map V.str) ∧ ts.Perm xs := by
      rcases (show d = 0 ∨ d = 1 ∨ d = 2 by omega) with rfl | rfl | rfl
      · exact ⟨b3, ms, atI_nat (j := 0) rfl, ftp_kp kp12 hk11 (fm9.same s11), pm⟩
      · exact ⟨b4, rs, atI_nat (j := 1) rfl, ftp_kp kp12 hk11 (fr.same s11), pr.trans px.symm⟩
      · refine ⟨b5, ms.reverse, atI_nat (j := 2) rfl, ftp_kp kp12 hk11 ?_, (List.reverse_perm _).trans pm⟩
        rw [List.map_reverse]
        exact f511
    refine ⟨L, _, d, .ref t, rfl, rfl, SqL.of (kp12 L _ nLp eL), at', ?_⟩
    have f112 := ftp_kp kp12 hk11 (f19.same s11)
    have f212 := ftp_kp kp12 hk11 (f29.same s11)
    have fm12 := ftp_kp kp12 hk11 (fm9.same s11)
    have e12 := kp12 q _ nqp (s11 _ _ e9)
    have lr : rs.length = j + 1 := pr.length_eq.trans hl4
    have hpA : PenAt H12 p c (300 * i + 80) := hp12.mono (by omega)
    clear hp12 hp11 hp9 hp8 hp7 hp6 hp5 hp4 hp3 hp2
    refine ⟨fun σ' H' => ∃ (t : Addr) (ts : List Str), σ' = [some (.ref a), some (.ref p), some (.int (0 + (i : Int))), some (.ref q), some (.ref b1), some (.ref b2), some (.ref b3), some (.ref t), o8, o9, o10, o11, o12, o13, o14] ∧ Ftp H' t (ts.map V.str) ∧ ts.Perm xs ∧ Ftp H' b1 (xs.map V.str) ∧ Ftp H' b2 (ys.map V.str) ∧ Ftp H' b3 (ms.map V.str) ∧ PenAt H' p c (300 * i + 90), ?_, ?_⟩
    · have skip : ∀ H', Same H12 H' → ∃ (t' : Addr) (ts' : List Str), [some (V.ref a), some (V.ref p), some (V.int (0 + (i : Int))), some (V.ref q), some (V.ref b1), some (V.ref b2), some (V.ref b3), some (V.ref t), o8, o9, o10, o11, o12, o13, o14] = [some (V.ref a), some (V.ref p), some (V.int (0 + (i : Int))), some (V.ref q), some (V.ref b1), some (V.ref b2), some (V.ref b3), some (V.ref t'), o8, o9, o10, o11, o12, o13, o14] ∧ Ftp H' t' (ts'.map V.str) ∧ ts'.Perm xs ∧ Ftp H' b1 (xs.map V.str) ∧ Ftp H' b2 (ys.map V.str) ∧ Ftp H' b3 (ms.map V.str) ∧ PenAt H' p c (300 * i + 90) := fun H' s => ⟨t, ts, rfl, ft.same s, pt, f112.same s, f212.same s, fm12.same s, (hpA.keep s).mono (by omega)⟩
      refine ⟨_, rfl, q, _, rfl, .inl (SqL.of e12), _, _, rfl, rfl, _, rfl, ?_⟩
      have lm : (hs.map V.str).length = j + 1 := by rw [List.length_map, hl4]
      rw [lm]
      by_cases g : (1 : Int) < ((j + 1 : Nat) : Int)
      · rw [decide_eq_true g]
        refine iteT ⟨_, rfl, p, c, 2, _, rfl, hpA, by omega, by decide, by decide, fun d' H13 x0 x2 hp13 kp13 => ⟨rfl, _, rfl, ?_⟩⟩
        obtain ⟨kvA, hkA⟩ := hpA.dk
        have ft13 := ftp_kp kp13 hkA ft
        have f113 := ftp_kp kp13 hkA f112
        have f213 := ftp_kp kp13 hkA f212
        have fm13 := ftp_kp kp13 hkA fm12
        have e13 := kp13 q _ nqp e12
        refine ite2 (fun _ => ?_) (fun _ => ⟨t, ts, rfl, ft13, pt, f113, f213, fm13, hp13.mono (by omega)⟩)
        refine ⟨_, rfl, _, rfl, _, rfl, q, _, rfl, .inl (SqL.of e13), _, _, rfl, rfl, p, c, _, _, rfl, hp13, by omega, by omega, by omega, fun m H14 m0 m1 hp14 kp14 => ?_⟩
        obtain ⟨kvB, hkB⟩ := hp13.dk
        obtain ⟨u, rfl⟩ : ∃ u : Nat, m = u := ⟨m.toNat, by omega⟩
        have lt := pt.length_eq
        refine ⟨t, u, ts, rfl, (ftp_kp kp14 hkB ft13).rd, by omega, by omega, fun t' H15 s15 f15 => ?_⟩
        exact ⟨t', exch ts u, rfl, f15, (exch_perm (by omega)).trans pt, (ftp_kp kp14 hkB f113).same s15, (ftp_kp kp14 hkB f213).same s15, (ftp_kp kp14 hkB fm13).same s15, (hp14.keep s15).mono (by omega)⟩
      · rw [decide_eq_false g]
        exact iteF (iteF (skip H12 (Same.refl _)))
    rintro σ' H13 ⟨t, ts, rfl, ft, pt, f1, f2, fm, hp13⟩
    clear at' f112 f212 fm12 e12 eL f511 e9 e8 e7 e6 e5 e4 fr lr
    have lt : ts.length = j + 1 := pt.length_eq.trans lx
    have lms : ms.length = j + 1 := pm.length_eq.trans lx
    have ndt : ts.Nodup := pt.nodup_iff.mpr ndx
    -- due
    refine ⟨_, rfl, _, rfl, b1, t, xs, ts, rfl, f1.rd, ft, by omega, by omega, ndt, fun x z => pt.mem_iff.mpr z, fun Z1 J1 z1 s1 ez1 lz1 => ⟨Z1, z1, rfl, .inl (SqL.of ez1), ?_⟩⟩
    refine ⟨_, rfl, _, rfl, t, b2, ts, ys, rfl, (ft.same s1).rd, f2.same s1, by omega, by omega, ndy, fun x z => py.mem_iff.mpr (pt.mem_iff.mp z), fun Z2 J2 z2 s2 ez2 lz2 => ⟨Z2, z2, rfl, .inl (SqL.of ez2), _, _, rfl, rfl, ?_⟩⟩
    have s12 := s1.trans s2
    refine ⟨_, rfl, _, rfl, b1, b2, xs, ys, rfl, (f1.same s12).rd, f2.same s12, by omega, by omega, ndy, fun x z => py.mem_iff.mpr z, fun Z3 J3 z3 s3 ez3 lz3 => ⟨Z3, z3, rfl, .inl (SqL.of ez3), rfl, ?_⟩⟩
    have s13 := s12.trans s3
    have edue : decide (V.int ((z1.length : Nat) + (z2.length : Nat) : Int) = V.int ((z3.length : Nat) : Int)) = decide (away xs ts + away ts ys = away xs ys) := by
      rw [lz1, lz2, lz3]
      show decide (V.int ((away xs ts : Nat) + (away ts ys : Nat) : Int) = V.int ((away xs ys : Nat) : Int)) = _
      by_cases q : away xs ts + away ts ys = away xs ys
      · rw [decide_eq_true q, decide_eq_true (by rw [← q]; rfl)]
      · rw [decide_eq_false q, decide_eq_false fun z => q (by have := V.int.inj z; omega)]
    rw [edue]
    have f1a := f1.same s13
    have f2a := f2.same s13
    have fta := ft.same s13
    have fma := fm.same s13
    have hpB := hp13.keep s13
    clear ez1 ez2 ez3 edue s1 s2 s3 s12 s13
    have hms : ∀ x ∈ ms, IsHand x := fun x z => hx x (pm.mem_iff.mp z)
    have hts : ∀ x ∈ ts, IsHand x := fun x z => hx x (pt.mem_iff.mp z)
    -- is_between both ways
    have btw : ∀ {H : Hp} {r1 r2 r3 : Addr} {us vs ws : List Str} {Q : VK} {E : XK}, Ftp H r1 (us.map V.str) → Ftp H r2 (vs.map V.str) → Ftp H r3 (ws.map V.str) → us.Perm xs → vs.Perm xs → ws.Perm xs → (∀ H', Same H H' → Q (.bl (decide (away us ws + away ws vs = away us vs))) H') → spBetween C [.ref r1, .ref r2, .ref r3] H Q E := by
      intro H r1 r2 r3 us vs ws Q E h1 h2 h3 pu pv' pw kk
      have row : ∀ {r : Addr} {l : List Str}, Ftp H r (l.map V.str) → l.Perm xs → Thing H (.ref r) (.tup l) := fun {r l} hf pl => Thing.row hf.rd (fun x z => hx x (pl.mem_iff.mp z)) (by rw [pl.length_eq]; omega)
      have ahu : AreHands us := ⟨by rw [pu.length_eq]; omega, by rw [pu.length_eq]; omega, fun x z => hx x (pu.mem_iff.mp z), pu.nodup_iff.mpr ndx⟩
      refine ⟨_, _, _, .tup us, .tup vs, .tup ws, rfl, ths3 (row h1 pu) (row h2 pv') (row h3 pw), fun d hd => ?_, fun us' vs' ws' x1 x2 x3 _ _ _ H' s' => ?_⟩
      · rw [due_good3 ahu (pv'.trans pu.symm) (pw.trans pu.symm)] at hd
        cases hd
      · cases x1
        cases x2
        cases x3
        exact kk H' s'
    refine ⟨_, rfl, _, rfl, _, rfl, ?_⟩
    dsimp (config := { proj := false }) only [tNil]
    refine btw (r1 := b1) (r2 := b2) (r3 := t) f1a f2a fta (.refl _) py pt fun J4 s4 => ?_
    refine ⟨_, rfl, _, rfl, _, rfl, ?_⟩
    dsimp (config := { proj := false }) only [tNil]
    refine btw (r1 := b2) (r2 := b1) (r3 := t) (f2a.same s4) (f1a.same s4) (fta.same s4) py (.refl _) pt fun J5 s5 => ?_
    have eb : decide (away ys ts + away ts xs = away ys xs) = decide (away xs ts + away ts ys = away xs ys) := by
      have q1 : away ys ts = away ts ys := (away_comm (py.trans pt.symm) ndt).symm
      have q2 : away ts xs = away xs ts := (away_comm pt ndx).symm
      have q3 : away ys xs = away xs ys := (away_comm py ndx).symm
      rw [q1, q2, q3, Nat.add_comm]
    rw [eb]
    refine ⟨(by show 2 ≤ sizeLine; decide), fun T2 hT2 => ?_⟩
    have s45 := s4.trans s5
    generalize hdue : decide (away xs ts + away ts ys = away xs ys) = due at hT2 ⊢
    have sT2 : Same J5 (upd J5 T2 (.tup [.bl due, .bl due])) := same_new hT2
    have eT2 : (upd J5 T2 (.tup [.bl due, .bl due])) T2 = some (.tup [.bl due, .bl due]) := upd_same
    generalize upd J5 T2 (.tup [.bl due, .bl due]) = J6 at sT2 eT2 ⊢
    have s36 := s45.trans sT2
    refine ⟨T2, rfl, ⟨_, .inl (.inl eT2)⟩, ?_⟩
    refine for_tup (K := K) (a := T2) (xs := [.bl due, .bl due]) (fun m σ H' => ∃ o9' : Option V, σ = [some (.ref a), some (.ref p), some (.int (0 + (i : Int))), some (.ref q), some (.ref b1), some (.ref b2), some (.ref b3), some (.ref t), some (.bl due), o9', o10, o11, o12, o13, o14] ∧ Same J6 H') ⟨o9, rfl, Same.refl _⟩ (fun m σ H' _ ⟨_, _, s'⟩ => .inl (.inl (s' _ _ eT2))) ?_ ?_
    · rintro m v σ H' hv ⟨o9', rfl, s'⟩
      have ev : v = .bl due := by
        have := List.mem_of_getElem? hv
        simpa using this
      subst ev
      refine ⟨_, rfl, .bl due, .ty "bool", _, _, true, rfl, .ty "bool", .base (.bl _), kit_ty (by decide +kernel), _, rfl, ?_⟩
      exact iteF ⟨_, rfl, _, rfl, rfl, _, rfl, iteNS rfl ⟨_, rfl, s'⟩⟩
    rintro σ H' ⟨o9', rfl, s'⟩
    have s37 := s36.trans s'
    have f1b := f1a.same s37
    have f2b := f2a.same s37
    have fmb := fma.same s37
    have hpC := hpB.keep s37
    -- all three of them
    refine ⟨_, rfl, _, rfl, _, rfl, ?_⟩
    refine ⟨(by show 3 ≤ sizeLine; decide), fun T3 hT3 => ?_⟩
    have sT3 : Same H' (upd H' T3 (.tup [.ref b1, .ref b2, .ref b3])) := same_new hT3
    have eT3 : (upd H' T3 (.tup [.ref b1, .ref b2, .ref b3])) T3 = some (.tup [.ref b1, .ref b2, .ref b3]) := upd_same
    generalize upd H' T3 (.tup [.ref b1, .ref b2, .ref b3]) = J7 at sT3 eT3 ⊢
    refine ⟨T3, rfl, ⟨_, .inl (.inl eT3)⟩, fun D0 hD0 => ?_⟩
    have f1c := f1b.same sT3
    have f2c := f2b.same sT3
    have fmc := fmb.same sT3
    refine lc_tup (K := K) (a := T3) (xs := [.ref b1, .ref b2, .ref b3]) (CompSt J7 D0 [.ref b1, .ref b2, .ref b3] fun _ => .bl true) (CompSt.start (Same.refl _) hD0) (fun m H' _ p => .inl (.inl (p.1 _ _ eT3))) (fun m v H8 hv p => ?_) (fun H8 p => ?_)
    · obtain ⟨p1, p2⟩ := p
      obtain ⟨r, ws, rfl, fw, pw, ew⟩ : ∃ (r : Addr) (ws : List Str), v = .ref r ∧ Ftp H8 r (ws.map V.str) ∧ ws.Perm xs ∧ away xs ws + away ws ys = away xs ys := by
        have hm := List.mem_of_getElem? hv
        rcases (by simpa using hm : v = .ref b1 ∨ v = .ref b2 ∨ v = .ref b3) with rfl | rfl | rfl
        · exact ⟨b1, xs, rfl, f1c.same p1, .refl _, by rw [away_self ndx, Nat.zero_add]⟩
        · exact ⟨b2, ys, rfl, f2c.same p1, py, by rw [away_self ndy, Nat.add_zero]⟩
        · exact ⟨b3, ms, rfl, fmc.same p1, pm, am⟩
      refine ⟨rfl, _, rfl, _, rfl, _, rfl, ?_⟩
      dsimp (config := { proj := false }) only [tNil]
      refine btw (r1 := b1) (r2 := b2) (r3 := r) (f1c.same p1) (f2c.same p1) fw (.refl _) py pw fun H9 s9 => ?_
      rw [decide_eq_true ew]
      exact CompSt.step (f := fun _ => V.bl true) (p1.trans s9) (s9 _ _ p2) hv hD0 (by show 3 ≤ 1000; decide)
    obtain ⟨p1, p2⟩ := p
    have p2' : H8 D0 = some (.lst [.bl true, .bl true, .bl true]) := p2
    refine ⟨(by show 3 ≤ sizeLine; decide), fun L2' hL2 => ?_⟩
    have sL2 : Same H8 (upd H8 L2' (.lst [.bl true, .bl true, .bl true])) := same_new hL2
    refine ⟨.list [.bool true, .bool true, .bool true], .list [.bool true, .bool true, .bool true], .lst (SqL.of (sL2 _ _ p2')) (.cons (.bl _) (.cons (.bl _) (.cons (.bl _) .nil))), .lst (SqL.of upd_same) (.cons (.bl _) (.cons (.bl _) (.cons (.bl _) .nil))), (by decide), (by decide), _, rfl, ?_⟩
    rw [show PyData.eqv (.list [.bool true, .bool true, .bool true]) (.list [.bool true, .bool true, .bool true]) = true by simp [PyData.eqv, PyData.eqvAll]]
    refine iteF ?_
    generalize upd H8 L2' (.lst [.bl true, .bl true, .bl true]) = J9 at sL2 ⊢
    have s79 := (sT3.trans p1).trans sL2
    have f1d := f1b.same s79
    have f2d := f2b.same s79
    have hpD := hpC.keep s79
    clear f1c f2c fmc f1b f2b fmb p2 p2' s36 s37 s45 eT2 eT3
    have hokx : ∀ x ∈ xs, PyData.strOk x = true := fun x z => (hx x z).ok
    have lmx : (xs.map V.str).length = j + 1 := by rw [List.length_map, lx]
    -- odd
    refine ⟨_, rfl, _, rfl, b1, xs.map V.str, rfl, .inr (.inl f1d.rd), fun l hl => ?_⟩
    have k1 : Same J9 (upd J9 l (.lst (xs.map V.str))) := same_new hl
    have el : (upd J9 l (.lst (xs.map V.str))) l = some (.lst (xs.map V.str)) := upd_same
    generalize upd J9 l (.lst (xs.map V.str)) = K1 at k1 el ⊢
    refine ⟨_, rfl, _, rfl, _, rfl, ?_⟩
    dsimp (config := { proj := false }) only [tNoPart]
    refine slA (f1d.same k1).rd fun c1 K2 k2 ec1 => ?_
    have ec1' : Rd K2 c1 (.tup ((xs.take 1).map V.str)) := by
      rw [show (1 : Int) = ((1 : Nat) : Int) from rfl, cutV_to (by omega), ← List.map_take] at ec1
      exact ec1
    refine catA (K := K) ((f1d.same (k1.trans k2)).rd) ec1' (by rw [lmx, List.length_map, List.length_take]; omega) fun c2 K3 k3 ec2 => ?_
    have ec2' : Rd K3 c2 (.tup ((xs ++ xs.take 1).map V.str)) := by
      rw [List.map_append]
      exact ec2
    refine ⟨(by show 0 ≤ sizeLine; decide), fun c3 hc3 dd o hdd => ⟨(by show 7 ≤ sizeLine; decide), fun L3 hL3 => ?_⟩⟩
    have k4 : Same K3 (upd K3 c3 (.tup [])) := same_new hc3
    have ec3 : (upd K3 c3 (.tup [])) c3 = some (.tup []) := upd_same
    generalize upd K3 c3 (.tup []) = K4 at k4 ec3 hdd hL3 ⊢
    have k5 : Same K4 (upd K4 dd (.frz o (.dK []))) := same_new hdd
    have edd : (upd K4 dd (.frz o (.dK []))) dd = some (.frz o (.dK [])) := upd_same
    generalize upd K4 dd (.frz o (.dK [])) = K5 at k5 edd hL3 ⊢
    have k6 : Same K5 (upd K5 L3 (.lst [.non, .ref l, .ref c2, .ref c3, .str "a", .int 7, .ref dd])) := same_new hL3
    have eL3 : (upd K5 L3 (.lst [.non, .ref l, .ref c2, .ref c3, .str "a", .int 7, .ref dd])) L3 = some (.lst [.non, .ref l, .ref c2, .ref c3, .str "a", .int 7, .ref dd]) := upd_same
    generalize upd K5 L3 (.lst [.non, .ref l, .ref c2, .ref c3, .str "a", .int 7, .ref dd]) = K6 at k6 eL3 ⊢
    have k96 : Same J9 K6 := k1.trans (k2.trans (k3.trans (k4.trans (k5.trans k6))))
    have hpE := hpD.keep k96
    refine ⟨p, c, .ref L3, [.non, .ref l, .ref c2, .ref c3, .str "a", .int 7, .ref dd], _, rfl, .inl ⟨L3, rfl, SqL.of eL3⟩, hpE, by omega, Nat.succ_pos _, (by show 7 < 1000000; decide), fun ix od K7 hod hpF kpF => ?_⟩
    obtain ⟨kvE, hkE⟩ := hpE.dk
    have fitx : ∀ {l : List Str}, (∀ x ∈ l, x ∈ xs) → l.length ≤ 1000 → (∀ x ∈ l, x.length ≤ 1000) := fun {l} h _ x z => Nat.le_trans (hx x (h x z)).2.1 (by decide)
    obtain ⟨d, tod6, odd⟩ : ∃ d : Th, Thing K6 od d ∧ OddD xs d := by
      have hm := List.mem_of_getElem? hod
      rcases (by simpa using hm : od = .non ∨ od = .ref l ∨ od = .ref c2 ∨ od = .ref c3 ∨ od = .str "a" ∨ od = .int 7 ∨ od = .ref dd) with rfl | rfl | rfl | rfl | rfl | rfl | rfl
      · exact ⟨.oth .non, ⟨rfl, ⟨Nat.zero_le _, fun x z => (List.not_mem_nil z).elim⟩, trivial⟩, odd_oth fun x e => by cases e⟩
      · exact ⟨.lst xs, ⟨⟨l, rfl, (k2.trans (k3.trans (k4.trans (k5.trans k6)))) _ _ el⟩, ⟨by show xs.length ≤ 1000; omega, fun x z => Nat.le_trans (hx x z).2.1 (by decide)⟩, trivial⟩, odd_list hokx⟩
      · refine ⟨.tup (xs ++ xs.take 1), ⟨⟨c2, rfl, rd_same (k4.trans (k5.trans k6)) ec2'⟩, ⟨?_, fun x z => ?_⟩, trivial⟩, odd_twice hokx (by omega)⟩
        · show (xs ++ xs.take 1).length ≤ 1000
          rw [List.length_append, List.length_take]
          omega
        · rcases List.mem_append.mp (show x ∈ xs ++ xs.take 1 from z) with w | w
          · exact Nat.le_trans (hx x w).2.1 (by decide)
          · exact Nat.le_trans (hx x (List.mem_of_mem_take w)).2.1 (by decide)
      · exact ⟨.tup [], ⟨⟨c3, rfl, .inl ((k5.trans k6) _ _ ec3)⟩, ⟨Nat.zero_le _, fun x z => (List.not_mem_nil z).elim⟩, trivial⟩, odd_none (by omega)⟩
      · exact ⟨.oth (.str "a"), ⟨rfl, ⟨Nat.zero_le _, fun x z => (List.not_mem_nil z).elim⟩, trivial⟩, odd_oth fun x e => by cases e; decide +kernel⟩
      · exact ⟨.oth (.int 7), ⟨rfl, ⟨Nat.zero_le _, fun x z => (List.not_mem_nil z).elim⟩, trivial⟩, odd_oth fun x e => by cases e⟩
      · exact ⟨.oth .dic, ⟨⟨dd, rfl, .inr ⟨o, k6 _ _ edd⟩⟩, ⟨Nat.zero_le _, fun x z => (List.not_mem_nil z).elim⟩, ⟨dd, o, rfl, k6 _ _ edd⟩⟩, odd_oth fun x e => by cases e⟩
    have tod := tod6.kp kpF hkE
    have f1e := ftp_kp kpF hkE (f1d.same k96)
    have f2e := ftp_kp kpF hkE (f2d.same k96)
    have t1e : Thing K7 (.ref b1) (.tup xs) := Thing.row f1e.rd hx (by omega)
    have t2e : Thing K7 (.ref b2) (.tup ys) := Thing.row f2e.rd hy (by omega)
    clear el ec1 ec1' ec2 ec2' ec3 edd eL3 tod6 hod f1d f2d
    -- odd, odd, one and one, odd, odd
    refine ⟨_, rfl, _, rfl, _, rfl, ?_⟩
    dsimp (config := { proj := false }) only [tNil]
    refine ref_cmp (K := K) (m := 11) rfl tod tod t1e (odd_first odd) tod odd.2.2 fun M1 m1 => ⟨_, rfl, iteF ?_⟩
    refine ⟨_, rfl, _, rfl, _, rfl, ?_⟩
    dsimp (config := { proj := false }) only [tNil]
    refine ref_cmp (K := K) (m := 11) rfl (t1e.same m1) (tod.same m1) (tod.same m1) (due_second ah odd.1) (tod.same m1) odd.2.2 fun M2 m2 => ⟨_, rfl, iteF ?_⟩
    have m12 := m1.trans m2
    -- one, other, odd
    refine ⟨_, rfl, _, rfl, _, rfl, ?_⟩
    dsimp (config := { proj := false }) only [tNil]
    refine ref_cmp (K := K) (m := 11) rfl (t1e.same m12) (t2e.same m12) (tod.same m12) (due_third ah py odd.1) (tod.same m12) odd.2.2 fun M3 m3 => ⟨_, rfl, iteF ?_⟩
    have m13 := m12.trans m3
    have t1m := t1e.same m13
    have t2m := t2e.same m13
    have todm := tod.same m13
    have hpM := hpF.keep m13
    have f1m := f1e.same m13
    have f2m := f2e.same m13
    -- far
    refine ⟨_, rfl, fun dd2 o2 hdd2 => ⟨_, rfl, b1, xs.map V.str, rfl, .inr (.inl (f1m.same (same_new hdd2)).rd), fun l2 hl2 => ⟨(by show 5 ≤ sizeLine; decide), fun T4 hT4 => ?_⟩⟩⟩
    have p1 : Same M3 (upd M3 dd2 (.frz o2 (.dK []))) := same_new hdd2
    have edd2 : (upd M3 dd2 (.frz o2 (.dK []))) dd2 = some (.frz o2 (.dK [])) := upd_same
    generalize upd M3 dd2 (.frz o2 (.dK [])) = P1 at p1 edd2 hl2 hT4 ⊢
    have p2 : Same P1 (upd P1 l2 (.lst (xs.map V.str))) := same_new hl2
    have el2 : (upd P1 l2 (.lst (xs.map V.str))) l2 = some (.lst (xs.map V.str)) := upd_same
    generalize upd P1 l2 (.lst (xs.map V.str)) = P2 at p2 el2 hT4 ⊢
    have p3 : Same P2 (upd P2 T4 (.tup [.non, .str "a", .int 7, .ref dd2, .ref l2])) := same_new hT4
    have eT4 : (upd P2 T4 (.tup [.non, .str "a", .int 7, .ref dd2, .ref l2])) T4 = some (.tup [.non, .str "a", .int 7, .ref dd2, .ref l2]) := upd_same
    generalize upd P2 T4 (.tup [.non, .str "a", .int 7, .ref dd2, .ref l2]) = P3 at p3 eT4 ⊢
    have p13 := p1.trans (p2.trans p3)
    have todp := todm.same p13
    have each : ∀ (m : Nat) (v : V), [V.non, V.str "a", V.int 7, V.ref dd2, V.ref l2][m]? = some v → ∃ e : Th, Thing P3 v e ∧ e.okd ∧ (m = 0 → e = .oth .non) ∧ (m = 1 → e = .oth (.str "a")) := by
      intro m v hv
      have fit0 : ∀ o : Od, (Th.oth o).fit := fun o => ⟨Nat.zero_le _, fun x z => (List.not_mem_nil z).elim⟩
      match m, hv with
      | 0, hv => cases hv; exact ⟨.oth .non, ⟨rfl, fit0 _, trivial⟩, (odd_oth (xs := xs) fun x e => by cases e).2.2, fun _ => rfl, (fun z => absurd z (by decide))⟩
      | 1, hv => cases hv; exact ⟨.oth (.str "a"), ⟨rfl, fit0 _, trivial⟩, (odd_oth (xs := xs) fun x e => by cases e; decide +kernel).2.2, (fun z => absurd z (by decide)), fun _ => rfl⟩
      | 2, hv => cases hv; exact ⟨.oth (.int 7), ⟨rfl, fit0 _, trivial⟩, (odd_oth (xs := xs) fun x e => by cases e).2.2, (fun z => absurd z (by decide)), (fun z => absurd z (by decide))⟩
      | 3, hv => cases hv; exact ⟨.oth .dic, ⟨⟨dd2, rfl, .inr ⟨o2, (p2.trans p3) _ _ edd2⟩⟩, fit0 _, ⟨dd2, o2, rfl, (p2.trans p3) _ _ edd2⟩⟩, (odd_oth (xs := xs) fun x e => by cases e).2.2, (fun z => absurd z (by decide)), (fun z => absurd z (by decide))⟩
      | 4, hv => cases hv; exact ⟨.lst xs, ⟨⟨l2, rfl, p3 _ _ el2⟩, ⟨by show xs.length ≤ 1000; omega, fun x z => Nat.le_trans (hx x z).2.1 (by decide)⟩, trivial⟩, (odd_list hokx).2.2, (fun z => absurd z (by decide)), (fun z => absurd z (by decide))⟩
      | m + 5, hv => simp at hv
    refine ⟨T4, rfl, ⟨_, .inl (.inl eT4)⟩, fun D1 hD1 => ?_⟩
    refine lc_tup (K := K) (a := T4) (xs := [.non, .str "a", .int 7, .ref dd2, .ref l2]) (fun m H' => Same P3 H' ∧ ∃ acc : List V, H' D1 = some (.lst acc) ∧ (∀ v ∈ acc, ∃ e, Thing P3 v e) ∧ acc.length ≤ m ∧ (1 ≤ m → d ≠ .oth .non → acc ≠ []) ∧ (2 ≤ m → acc ≠ [])) ⟨same_new hD1, [], upd_same, by simp, Nat.le_refl _, fun z => by omega, fun z => by omega⟩ (fun m H' _ q => .inl (.inl (q.1 _ _ eT4))) (fun m v H' hv q => ?_) (fun H' q => ?_)
    · obtain ⟨q1, acc, q2, q3, q4, q5, q6⟩ := q
      obtain ⟨e, te, oe, e0, e1⟩ := each m v hv
      have hm5 : m < 5 := (List.getElem?_eq_some_iff.mp hv).1
      refine ⟨rfl, _, rfl, _, rfl, ne_th (te.same q1).at' (todp.same q1).at' oe odd.2.2 ⟨_, rfl, ?_⟩⟩
      by_cases cb : neTh e d = true
      · rw [cb]
        refine iteT ⟨_, rfl, acc, q2, small1000 (by omega), same_mut q1 hD1, acc ++ [v], upd_same, fun u hu => ?_, ?_, fun _ _ => by simp, fun _ => by simp⟩
        · rcases List.mem_append.mp hu with z | z
          · exact q3 u z
          · rw [List.mem_singleton.mp z]
            exact ⟨e, te⟩
        · rw [List.length_append]
          show acc.length + 1 ≤ m + 1
          omega
      · rw [Bool.eq_false_iff.mpr cb]
        refine iteF ⟨q1, acc, q2, q3, by omega, fun _ hn => ?_, fun h2 => ?_⟩
        · by_cases m0 : m = 0
          · rw [e0 m0] at cb
            exact absurd (neTh_non hn) cb
          · exact q5 (by omega) hn
        · by_cases m1' : m = 1
          · refine q5 (by omega) fun hn => ?_
            rw [e1 m1', hn] at cb
            exact cb neTh_str
          · exact q6 (by omega)
    obtain ⟨q1, acc, q2, q3, q4, q5, q6⟩ := q
    have hne : acc ≠ [] := q6 (by show 2 ≤ 5; decide)
    have hpN := (hpM.keep p13).keep q1
    refine ⟨p, c, .ref D1, acc, _, rfl, .inl ⟨D1, rfl, SqL.of q2⟩, hpN, by omega, List.length_pos_iff.mpr hne, Nat.lt_of_le_of_lt q4 (by show 5 < 1000000; decide), fun ix fv N1 hfv hpG kpG => ?_⟩
    obtain ⟨kvN, hkN⟩ := hpN.dk
    obtain ⟨fe, tfe⟩ := q3 fv (List.mem_of_getElem? hfv)
    have q13 := p13.trans q1
    have tfar := (tfe.same q1).kp kpG hkN
    have todn := (todm.same q13).kp kpG hkN
    have f1n := ftp_kp kpG hkN (f1m.same q13)
    have t1n : Thing N1 (.ref b1) (.tup xs) := Thing.row f1n.rd hx (by omega)
    clear edd2 el2 eT4 q2 q3 each
    -- odd, far, one and one, odd, far
    refine ⟨_, rfl, _, rfl, _, rfl, ?_⟩
    dsimp (config := { proj := false }) only [tNil]
    refine ref_cmp (K := K) (m := 11) rfl todn tfar t1n (odd_first odd) todn odd.2.2 fun R1 r1' => ⟨_, rfl, iteF ?_⟩
    refine ⟨_, rfl, _, rfl, _, rfl, ?_⟩
    dsimp (config := { proj := false }) only [tNil]
    refine ref_cmp (K := K) (m := 11) rfl (t1n.same r1') (todn.same r1') (tfar.same r1') (due_second ah odd.1) (todn.same r1') odd.2.2 fun R2 r2' => ⟨_, rfl, iteF ?_⟩
    have r12 := r1'.trans r2'
    have f1r := f1n.same r12
    have todr := todn.same r12
    have hpR := hpG.keep r12
    clear f1a f2a fta fma hpA hpB hpC hpD hpE hpF hpM hpN btw k96 todp todm tfar todn f1n t1n tod t1e t2e t1m t2m f1e f2e f1m f2m
    -- a stranger for the last one
    obtain ⟨zs, y, rfl⟩ : ∃ zs y, xs = zs ++ [y] := ⟨xs.dropLast, xs.getLast (fun e => by rw [e] at lx; simp at lx), (List.dropLast_concat_getLast _).symm⟩
    have lzs : zs.length = j := by rw [List.length_append] at lx; simpa using lx
    have hyy : IsHand y := hx y (by simp)
    obtain ⟨hw, lw⟩ := withQ_hand hyy
    refine ⟨_, rfl, _, rfl, _, rfl, ?_⟩
    dsimp (config := { proj := false }) only [tNoPart]
    refine slA f1r.rd fun b6 S1 u1 e8 => ?_
    have ec : cutV ((zs ++ [y]).map V.str) none (some (-1)) = zs.map V.str := by
      have e1 : HT.sIx (j + 1) (j + 1) (some (-1)) = j := by
        show (if (-1 : Int) < 0 then ((-1 : Int) + ((j + 1 : Nat) : Int)).toNat else min (-1 : Int).toNat (j + 1)) = j
        rw [if_pos (by decide)]
        omega
      unfold cutV
      rw [lmx, HT.sIx_none, e1, List.drop_zero, Nat.sub_zero, List.map_append]
      have l2 : (zs.map V.str).length = j := by rw [List.length_map, lzs]
      rw [← l2]
      exact List.take_left ..
    have e8' : Rd S1 b6 (.tup (zs.map V.str)) := ec ▸ e8
    have f1s := f1r.same u1
    refine ⟨_, rfl, _, rfl, b1, (zs ++ [y]).map V.str, (-1 : Int), .str y, rfl, rfl, .inl f1s.rd, (by rw [List.map_append]; exact atI_last _ _), _, rfl, y, rfl, Nat.le_trans hyy.2.1 (by decide), _, _, rfl, rfl, lw, (by show 1 ≤ sizeLine; decide), fun b7 hb7 => ?_⟩
    refine catA (K := K) (rd_same (same_new hb7) e8') (.inl upd_same) (by rw [List.length_map, lzs]; show j + 1 ≤ 1000; omega) fun th S2 u2 e9 => ?_
    have u12 : Same R2 S2 := u1.trans ((same_new hb7).trans u2)
    have e9' : Rd S2 th (.tup ((zs ++ [withQ y]).map V.str)) := by
      rw [List.map_append]
      exact e9
    have f1z := f1r.same u12
    have todz := todr.same u12
    have hpZ := hpR.keep u12
    have hok3 : ∀ x ∈ zs ++ [withQ y], PyData.strOk x = true := fun x z => by
      rcases List.mem_append.mp z with q | q
      · exact hokx x (List.mem_append_left _ q)
      · rw [List.mem_singleton.mp q]
        exact hw.ok
    have h3 : ∀ x ∈ zs ++ [withQ y], IsHand x := fun x z => by
      rcases List.mem_append.mp z with q | q
      · exact hx x (List.mem_append_left _ q)
      · rw [List.mem_singleton.mp q]
        exact hw
    have l3 : (zs ++ [withQ y]).length = j + 1 := by rw [List.length_append, lzs]; rfl
    have t3z : Thing S2 (.ref th) (.tup (zs ++ [withQ y])) := Thing.row e9' h3 (by omega)
    have t1z : Thing S2 (.ref b1) (.tup (zs ++ [y])) := Thing.row f1z.rd hx (by omega)
    have fin : ∀ H', Same S2 H' → PenAt H' p c (300 * (i + 1)) := fun H' s => (hpZ.keep s).mono (by omega)
    refine ⟨_, rfl, _, rfl, th, zs ++ [withQ y], rfl, .inl e9', fun d5 hd5 => ⟨d5, _, rfl, upd_same, _, rfl, b1, _, rfl, .inr (.inl (f1z.same (same_new hd5)).rd), rfl, _, rfl, ?_⟩⟩
    have u3 : Same S2 (upd S2 d5 (.dK (mergeK [] (selfK (zs ++ [withQ y]))))) := same_new hd5
    generalize upd S2 d5 (.dK (mergeK [] (selfK (zs ++ [withQ y])))) = S3 at u3 ⊢
    rw [List.length_map, lx]
    by_cases el : (mergeK [] (selfK (zs ++ [withQ y]))).length = j + 1
    · rw [el, decide_eq_true rfl]
      refine iteT ⟨_, rfl, _, rfl, .tuple ((zs ++ [withQ y]).map PyData.str), .tuple ((zs ++ [y]).map PyData.str), .tup (.inl (rd_same u3 e9')) (dp_strs _), .tup (.inl (f1z.same u3).rd) (dp_strs _), shp_strsT hok3, shp_strsT hokx, _, rfl, ?_⟩
      rw [eqv_tups]
      by_cases et : zs ++ [withQ y] = zs ++ [y]
      · rw [decide_eq_true et]
        exact iteF (iteF ⟨_, _, _, _, _, _, _, _, _, _, _, _, _, rfl, fin _ u3⟩)
      · rw [decide_eq_false et]
        refine iteT ⟨_, rfl, th, zs ++ [withQ y], rfl, .inr (.inl (rd_same u3 e9')), by omega, fun a1 q1 pa1 _ hq1 => ⟨_, rfl, b1, zs ++ [y], rfl, .inr (.inl (f1z.same (u3.trans (same_new hq1))).rd), by omega, fun a2 q2 pa2 _ hq2 => ?_⟩⟩
        have u4 := u3.trans ((same_new (o := .lst (a1.map V.str)) hq1).trans (same_new (o := .lst (a2.map V.str)) hq2))
        refine ⟨.list (a1.map PyData.str), .list (a2.map PyData.str), .lst (SqL.of ((same_new hq2) _ _ upd_same)) (dp_strs _), .lst (SqL.of upd_same) (dp_strs _), shp_strs fun x z => hok3 x (pa1.mem_iff.mp z), shp_strs fun x z => hokx x (pa2.mem_iff.mp z), _, rfl, ?_⟩
        generalize upd (upd S3 q1 (.lst (a1.map V.str))) q2 (.lst (a2.map V.str)) = S4 at u4 ⊢
        cases (!PyData.eqv (.list (a1.map PyData.str)) (.list (a2.map PyData.str))) with
        | false => exact iteF ⟨_, _, _, _, _, _, _, _, _, _, _, _, _, rfl, fin _ u4⟩
        | true =>
          have nd3 : (zs ++ [withQ y]).Nodup := selfK_nodup (by rw [el, l3])
          obtain ⟨k1', k2', k3'⟩ := third_strange (List.Perm.refl (zs ++ [y])) ndx nd3 et
          refine iteT ⟨_, rfl, _, rfl, _, rfl, ?_⟩
          dsimp (config := { proj := false }) only [tNil]
          refine ref_cmp (K := K) (m := 14) rfl (t1z.same u4) (t3z.same u4) (todz.same u4) (due_second ah fun z => k2' (z.2 y k3')) (t3z.same u4) ⟨hok3, fun x e => by cases e⟩ fun S5 u5 => ⟨_, rfl, iteF ?_⟩
          refine ⟨_, rfl, _, rfl, _, rfl, ?_⟩
          dsimp (config := { proj := false }) only [tNil]
          have u45 := u4.trans u5
          refine ref_cmp (K := K) (m := 11) rfl (todz.same u45) (t3z.same u45) (t1z.same u45) (odd_first odd) (todz.same u45) odd.2.2 fun S6 u6 => ⟨_, rfl, iteF ?_⟩
          exact ⟨_, _, _, _, _, _, _, _, _, _, _, _, _, rfl, fin _ (u45.trans u6)⟩
    · rw [show decide (V.int (((mergeK [] (selfK (zs ++ [withQ y]))).length : Nat) : Int) = V.int ((j + 1 : Nat) : Int)) = false from decide_eq_false fun z => el (by have := V.int.inj z; omega)]
      exact iteF (iteF ⟨_, _, _, _, _, _, _, _, _, _, _, _, _, rfl, fin _ u3⟩)
end
end Ah
set_option Elab.async false
set_option linter.all false
set_option maxRecDepth 100000
set_option maxHeartbeats 8000000
namespace Ah
open PySem PySem.Spec PyProof.Rows L2
/-- an error of the class at S is what its own clause takes -/
theorem own_taken {K : PySem.W.Frag} {S : Addr} (h1 : PySem.W.subIn K (.ref S) (.type "BaseException") = some true) (h2 : PySem.W.isClsIn K S = true) (h3 : PySem.W.typeIn K (.ref S) = some (.type "type")) (h4 : PySem.W.subIn K (.ref S) (.ref S) = some true) : PySem.W.exmOne K (.ref S) (.ref S) = some true := by
  have c1 : (PySem.W.subIn K (.ref S) (.type "BaseException") == some true) = true := by rw [h1]; rfl
  have c2 : ((PySem.W.clsIn K S).isSome && PySem.W.typeIn K (.ref S) == some (.type "type")) = true := by
    have q : (PySem.W.clsIn K S).isSome = true := h2
    rw [q, h3]; rfl
  show (if (PySem.W.subIn K (.ref S) (.type "BaseException") == some true) = true then (if ((PySem.W.clsIn K S).isSome && PySem.W.typeIn K (.ref S) == some (.type "type")) = true then PySem.W.subIn K (.ref S) (.ref S) else none) else none) = some true
  rw [if_pos c1, if_pos c2, h4]

theorem all_mk {l : PySem.W.OpenLaw} {w : World} {K : PySem.W.Frag} {h : Heap} {mg : Str → Option Value} {fa C fI f1 f2 f3 f4 f5 f6 f7 f8 f9 f10 f11 f12 f13 f14 f15 f16 f17 f18 f19 f20 : Addr} (X : K.In h) (G : h.Ns mainGlobals mg) (hfa : mg "law" = some (.ref fa))
    {nm q : Str} {N : Addr} {bs : List Value} {sn : List Str} {sub : List Value} {ab : Bool} {col : Option Bool} {dd : Option Addr} {m0 m1 m2 m3 m5 : Option Value} {tH tL : Tok}
    {od0 an0 od1 an1 od2 an2 od3 an3 od4 an4 od5 an5 od6 an6 od7 an7 od8 an8 od9 an9 od10 an10 od11 an11 od12 an12 od13 an13 od14 an14 od15 an15 od16 an16 od17 an17 od18 an18 od19 an19 od20 an20 : Option Addr} {sl0 sl1 sl2 sl3 sl4 sl5 sl6 sl7 sl8 sl9 sl10 sl11 sl12 sl13 sl14 sl15 sl16 sl17 sl18 sl19 sl20 : Array (Option Value)} {oc0 dc0 pm0 cd0 ct0 oc1 kV1 dc1 pm1 cd1 ct1 oc2 kV2 dc2 pm2 cd2 ct2 oc3 kV3 dc3 pm3 cd3 ct3 oc4 kV4 dc4 pm4 cd4 ct4 oc5 kV5 dc5 pm5 cd5 ct5 oc6 kV6 dc6 pm6 cd6 ct6 oc7 kV7 dc7 pm7 cd7 ct7 oc8 kV8 dc8 pm8 cd8 ct8 oc9 kV9 dc9 pm9 cd9 ct9 oc10 kV10 dc10 pm10 cd10 ct10 oc11 kV11 dc11 pm11 cd11 ct11 oc12 kV12 dc12 pm12 cd12 ct12 oc13 kV13 dc13 pm13 cd13 ct13 oc14 kV14 dc14 pm14 cd14 ct14 oc15 kV15 dc15 pm15 cd15 ct15 oc16 kV16 dc16 pm16 cd16 ct16 oc17 kV17 dc17 pm17 cd17 ct17 oc18 kV18 dc18 pm18 cd18 ct18 oc19 kV19 dc19 pm19 cd19 ct19 oc20 kV20 dc20 pm20 cd20 ct20 : Value}
    (aC : PySem.W.nsIn K mainGlobals "NoRow" = some (some (.ref C)))
    (xL : K.lookup C = some (excClassObj nm q C N bs [.type "ValueError", .type "Exception", .type "BaseException", .type "object"] true sn sub ab col dd m0 m1 m2 m3 m5 "ValueError.__new__"))
    (sa : PySem.W.findIn K (.ref C) "__setattr__" = some (some (.builtin "object.__setattr__")))
    (ga : PySem.W.findIn K (.ref C) "__getattribute__" = some (some (.builtin "BaseException.__getattribute__")))
    (gg : PySem.W.findIn K (.ref C) "__getattr__" = some none)
    (nb : PySem.W.findIn K (.ref C) "asked" = some none)
    (a0 : PySem.W.findIn K (.ref C) "__init__" = some (some (.ref fI)))
    (t0 : PySem.W.typeIn K (.ref fI) = some (.type "function"))
    (l0 : K.lookup fI = some ⟨oc0, od0, .func (PySem.W.fnOf "__init__" "NoRow.__init__" (PySem.LowX.iA ⟨4, 17, 4, 21⟩ ⟨4, 23, 4, 28⟩) (PySem.LowX.iB ⟨5, 8, 5, 12⟩ ⟨5, 8, 5, 18⟩ ⟨5, 21, 5, 26⟩ ⟨5, 8, 5, 26⟩) PySem.LowX.iS .none .none dc0 pm0 an0 cd0 ct0), sl0⟩)
    (c0 : PySem.W.codeIn K cd0 "NoRow.__init__" = true)
    (kC : PySem.W.keepIn K (.ref C) = true)
    (eC : PySem.W.subIn K (.ref C) (.type "BaseException") = some true)
    (tC : PySem.W.typeIn K (.ref C) = some (.type "type"))
    (hC : PySem.W.hasDictIn K C = true)
    (iC : PySem.W.isClsIn K C = true)
    (sC : PySem.W.subIn K (.ref C) (.ref C) = some true)
    (a1 : PySem.W.nsIn K mainGlobals "copied" = some (some (.ref f1)))
    (l1 : K.lookup f1 = some ⟨oc1, od1, .func (PySem.W.fnOf "copied" "copied" (defArgs sCopied) (defBody sCopied) (defScope sCopied) .none kV1 dc1 pm1 an1 cd1 ct1), sl1⟩)
    (c1 : PySem.W.codeIn K cd1 "copied" = true)
    (k1 : PySem.W.keepIn K (.ref f1) = true)
    (a2 : PySem.W.nsIn K mainGlobals "is_hand" = some (some (.ref f2)))
    (l2 : K.lookup f2 = some ⟨oc2, od2, .func (PySem.W.fnOf "is_hand" "is_hand" (defArgs sIsHand) (defBody sIsHand) (defScope sIsHand) .none kV2 dc2 pm2 an2 cd2 ct2), sl2⟩)
    (c2 : PySem.W.codeIn K cd2 "is_hand" = true)
    (k2 : PySem.W.keepIn K (.ref f2) = true)
    (a3 : PySem.W.nsIn K mainGlobals "are_hands" = some (some (.ref f3)))
    (l3 : K.lookup f3 = some ⟨oc3, od3, .func (PySem.W.fnOf "are_hands" "are_hands" (defArgs sAreHands) (defBody sAreHands) (defScope sAreHands) .none kV3 dc3 pm3 an3 cd3 ct3), sl3⟩)
    (c3 : PySem.W.codeIn K cd3 "are_hands" = true)
    (k3 : PySem.W.keepIn K (.ref f3) = true)
    (a4 : PySem.W.nsIn K mainGlobals "is_row" = some (some (.ref f4)))
    (l4 : K.lookup f4 = some ⟨oc4, od4, .func (PySem.W.fnOf "is_row" "is_row" (defArgs sIsRow) (defBody sIsRow) (defScope sIsRow) .none kV4 dc4 pm4 an4 cd4 ct4), sl4⟩)
    (c4 : PySem.W.codeIn K cd4 "is_row" = true)
    (k4 : PySem.W.keepIn K (.ref f4) = true)
    (a5 : PySem.W.nsIn K mainGlobals "check_row" = some (some (.ref f5)))
    (l5 : K.lookup f5 = some ⟨oc5, od5, .func (PySem.W.fnOf "check_row" "check_row" (defArgs sCheckRow) (defBody sCheckRow) (defScope sCheckRow) .none kV5 dc5 pm5 an5 cd5 ct5), sl5⟩)
    (c5 : PySem.W.codeIn K cd5 "check_row" = true)
    (k5 : PySem.W.keepIn K (.ref f5) = true)
    (a6 : PySem.W.nsIn K mainGlobals "check_rows" = some (some (.ref f6)))
    (l6 : K.lookup f6 = some ⟨oc6, od6, .func (PySem.W.fnOf "check_rows" "check_rows" (defArgs sCheck) (defBody sCheck) (defScope sCheck) .none kV6 dc6 pm6 an6 cd6 ct6), sl6⟩)
    (c6 : PySem.W.codeIn K cd6 "check_rows" = true)
    (k6 : PySem.W.keepIn K (.ref f6) = true)
    (a7 : PySem.W.nsIn K mainGlobals "turned_pairs" = some (some (.ref f7)))
    (l7 : K.lookup f7 = some ⟨oc7, od7, .func (PySem.W.fnOf "turned_pairs" "turned_pairs" (defArgs sPairs) (defBody sPairs) (defScope sPairs) .none kV7 dc7 pm7 an7 cd7 ct7), sl7⟩)
    (c7 : PySem.W.codeIn K cd7 "turned_pairs" = true)
    (k7 : PySem.W.keepIn K (.ref f7) = true)
    (a8 : PySem.W.nsIn K mainGlobals "is_between" = some (some (.ref f8)))
    (l8 : K.lookup f8 = some ⟨oc8, od8, .func (PySem.W.fnOf "is_between" "is_between" (defArgs sBetween) (defBody sBetween) (defScope sBetween) .none kV8 dc8 pm8 an8 cd8 ct8), sl8⟩)
    (c8 : PySem.W.codeIn K cd8 "is_between" = true)
    (k8 : PySem.W.keepIn K (.ref f8) = true)
    (a9 : PySem.W.nsIn K mainGlobals "far" = some (some (.ref f9)))
    (l9 : K.lookup f9 = some ⟨oc9, od9, .func (PySem.W.fnOf "far" "far" (defArgs sFar) (defBody sFar) (defScope sFar) .none kV9 dc9 pm9 an9 cd9 ct9), sl9⟩)
    (c9 : PySem.W.codeIn K cd9 "far" = true)
    (k9 : PySem.W.keepIn K (.ref f9) = true)
    (a10 : PySem.W.nsIn K mainGlobals "_law_pen" = some (some (.ref f10)))
    (l10 : K.lookup f10 = some ⟨oc10, od10, .func (PySem.W.fnOf "_law_pen" "_law_pen" (defArgs sPen) (defBody sPen) (defScope sPen) .none kV10 dc10 pm10 an10 cd10 ct10), sl10⟩)
    (c10 : PySem.W.codeIn K cd10 "_law_pen" = true)
    (k10 : PySem.W.keepIn K (.ref f10) = true)
    (a11 : PySem.W.nsIn K mainGlobals "_law_draw" = some (some (.ref f11)))
    (l11 : K.lookup f11 = some ⟨oc11, od11, .func (PySem.W.fnOf "_law_draw" "_law_draw" (defArgs sDraw) (defBody sDraw) (defScope sDraw) .none kV11 dc11 pm11 an11 cd11 ct11), sl11⟩)
    (c11 : PySem.W.codeIn K cd11 "_law_draw" = true)
    (k11 : PySem.W.keepIn K (.ref f11) = true)
    (a12 : PySem.W.nsIn K mainGlobals "_law_pick" = some (some (.ref f12)))
    (l12 : K.lookup f12 = some ⟨oc12, od12, .func (PySem.W.fnOf "_law_pick" "_law_pick" (defArgs sPick) (defBody sPick) (defScope sPick) .none kV12 dc12 pm12 an12 cd12 ct12), sl12⟩)
    (c12 : PySem.W.codeIn K cd12 "_law_pick" = true)
    (k12 : PySem.W.keepIn K (.ref f12) = true)
    (a13 : PySem.W.nsIn K mainGlobals "_law_shuffled" = some (some (.ref f13)))
    (l13 : K.lookup f13 = some ⟨oc13, od13, .func (PySem.W.fnOf "_law_shuffled" "_law_shuffled" (defArgs sShuf) (defBody sShuf) (defScope sShuf) .none kV13 dc13 pm13 an13 cd13 ct13), sl13⟩)
    (c13 : PySem.W.codeIn K cd13 "_law_shuffled" = true)
    (k13 : PySem.W.keepIn K (.ref f13) = true)
    (a14 : PySem.W.nsIn K mainGlobals "_law_hands" = some (some (.ref f14)))
    (l14 : K.lookup f14 = some ⟨oc14, od14, .func (PySem.W.fnOf "_law_hands" "_law_hands" (defArgs sHands) (defBody sHands) (defScope sHands) .none kV14 dc14 pm14 an14 cd14 ct14), sl14⟩)
    (c14 : PySem.W.codeIn K cd14 "_law_hands" = true)
    (k14 : PySem.W.keepIn K (.ref f14) = true)
    (a15 : PySem.W.nsIn K mainGlobals "_law_changed" = some (some (.ref f15)))
    (l15 : K.lookup f15 = some ⟨oc15, od15, .func (PySem.W.fnOf "_law_changed" "_law_changed" (defArgs sLawEx) (defBody sLawEx) (defScope sLawEx) .none kV15 dc15 pm15 an15 cd15 ct15), sl15⟩)
    (c15 : PySem.W.codeIn K cd15 "_law_changed" = true)
    (k15 : PySem.W.keepIn K (.ref f15) = true)
    (a16 : PySem.W.nsIn K mainGlobals "_law_turned" = some (some (.ref f16)))
    (l16 : K.lookup f16 = some ⟨oc16, od16, .func (PySem.W.fnOf "_law_turned" "_law_turned" (defArgs sLawTurned) (defBody sLawTurned) (defScope sLawTurned) .none kV16 dc16 pm16 an16 cd16 ct16), sl16⟩)
    (c16 : PySem.W.codeIn K cd16 "_law_turned" = true)
    (k16 : PySem.W.keepIn K (.ref f16) = true)
    (a17 : PySem.W.nsIn K mainGlobals "_law_row" = some (some (.ref f17)))
    (l17 : K.lookup f17 = some ⟨oc17, od17, .func (PySem.W.fnOf "_law_row" "_law_row" (defArgs sLawRow) (defBody sLawRow) (defScope sLawRow) .none kV17 dc17 pm17 an17 cd17 ct17), sl17⟩)
    (c17 : PySem.W.codeIn K cd17 "_law_row" = true)
    (k17 : PySem.W.keepIn K (.ref f17) = true)
    (a18 : PySem.W.nsIn K mainGlobals "_law_amid" = some (some (.ref f18)))
    (l18 : K.lookup f18 = some ⟨oc18, od18, .func (PySem.W.fnOf "_law_amid" "_law_amid" (defArgs sAmid) (defBody sAmid) (defScope sAmid) .none kV18 dc18 pm18 an18 cd18 ct18), sl18⟩)
    (c18 : PySem.W.codeIn K cd18 "_law_amid" = true)
    (k18 : PySem.W.keepIn K (.ref f18) = true)
    (a19 : PySem.W.nsIn K mainGlobals "_law_refused" = some (some (.ref f19)))
    (l19 : K.lookup f19 = some ⟨oc19, od19, .func (PySem.W.fnOf "_law_refused" "_law_refused" (defArgs sRefused3) (defBody sRefused3) (defScope sRefused3) .none kV19 dc19 pm19 an19 cd19 ct19), sl19⟩)
    (c19 : PySem.W.codeIn K cd19 "_law_refused" = true)
    (k19 : PySem.W.keepIn K (.ref f19) = true)
    (a20 : PySem.W.nsIn K mainGlobals "law" = some (some (.ref f20)))
    (l20 : K.lookup f20 = some ⟨oc20, od20, .func (PySem.W.fnOf "law" "law" (defArgs sLaw4) (defBody sLaw4) (defScope sLaw4) .none kV20 dc20 pm20 an20 cd20 ct20), sl20⟩)
    (c20 : PySem.W.codeIn K cd20 "law" = true)
    (k20 : PySem.W.keepIn K (.ref f20) = true)
    (mH : PySem.W.nsIn K mainGlobals "MOST_HANDS" = some (some (.int 8 tH)))
    (mL : PySem.W.nsIn K mainGlobals "MOST_LETTERS" = some (some (.int 8 tL)))
    (z_len : PySem.W.nsIn K mainGlobals "len" = some none)
    (z_abs : PySem.W.nsIn K mainGlobals "abs" = some none)
    (z_list : PySem.W.nsIn K mainGlobals "list" = some none)
    (z_isinstance : PySem.W.nsIn K mainGlobals "isinstance" = some none)
    (z_str : PySem.W.nsIn K mainGlobals "str" = some none)
    (z_tuple : PySem.W.nsIn K mainGlobals "tuple" = some none)
    (z_dict : PySem.W.nsIn K mainGlobals "dict" = some none)
    (z_all : PySem.W.nsIn K mainGlobals "all" = some none)
    (z_set : PySem.W.nsIn K mainGlobals "set" = some none)
    (z_enumerate : PySem.W.nsIn K mainGlobals "enumerate" = some none)
    (z_sorted : PySem.W.nsIn K mainGlobals "sorted" = some none)
    (z_range : PySem.W.nsIn K mainGlobals "range" = some none)
    (z_bool : PySem.W.nsIn K mainGlobals "bool" = some none)
    (z_zip : PySem.W.nsIn K mainGlobals "zip" = some none) :
    ∃ fd : FuncData, (∀ (s : Shared) (v : Value), BindsTo s fd ⟨[v], []⟩ [("script", v)]) ∧ ∀ base : Heap, K.In base → base.Ns mainGlobals mg → FnOk l.prog w K mg base CX0 7 fa fd ["script"] (spLaw K) := by
  have e := hfa.symm.trans (PySem.W.mg_of X G a20)
  cases e
  have T : PySem.LowX.LowTxt K mg C fI := { gC := PySem.W.mg_of X G aC, cls := ⟨nm, q, N, bs, _, sn, sub, ab, col, dd, m0, m1, m2, m3, m5, xL, by decide +kernel⟩, sa := sa, ga := ga, gg := gg, noN := nb, iC := a0, tC := t0, kC := kC, exC := eC, tyC := tC, hdC := hC, te := own_taken eC iC tC sC, fn := ⟨_, _, _, _, _, _, _, _, _, _, _, _, _, _, l0, c0⟩ }
  have B1 : Blt mg := ⟨PySem.W.mg_none_of X G z_len, PySem.W.mg_none_of X G z_abs, PySem.W.mg_none_of X G z_list⟩
  have B2 : Blt2 mg := ⟨PySem.W.mg_none_of X G z_isinstance, PySem.W.mg_none_of X G z_str, PySem.W.mg_none_of X G z_list, PySem.W.mg_none_of X G z_tuple, PySem.W.mg_none_of X G z_dict, PySem.W.mg_none_of X G z_all, PySem.W.mg_none_of X G z_set, PySem.W.mg_none_of X G z_len, PySem.W.mg_none_of X G z_enumerate, PySem.W.mg_none_of X G z_sorted, PySem.W.mg_none_of X G z_range, ⟨tH, PySem.W.mg_of X G mH⟩, ⟨tL, PySem.W.mg_of X G mL⟩⟩
  have F1 := fun_mk (st := sCopied) l1 c1 k1
  have b1 := F1.binds (ps := ["thing"]) fun _ _ _ _ _ _ us hl => match us, hl with | [_], _ => rfl
  have F2 := fun_mk (st := sIsHand) l2 c2 k2
  have b2 := F2.binds (ps := ["thing"]) fun _ _ _ _ _ _ us hl => match us, hl with | [_], _ => rfl
  have F3 := fun_mk (st := sAreHands) l3 c3 k3
  have b3 := F3.binds (ps := ["thing"]) fun _ _ _ _ _ _ us hl => match us, hl with | [_], _ => rfl
  have F4 := fun_mk (st := sIsRow) l4 c4 k4
  have b4 := F4.binds (ps := ["hands", "thing"]) fun _ _ _ _ _ _ us hl => match us, hl with | [_, _], _ => rfl
  have F5 := fun_mk (st := sCheckRow) l5 c5 k5
  have b5 := F5.binds (ps := ["hands", "row"]) fun _ _ _ _ _ _ us hl => match us, hl with | [_, _], _ => rfl
  have F6 := fun_mk (st := sCheck) l6 c6 k6
  have b6 := F6.binds (ps := ["rows"]) fun _ _ _ _ _ _ us hl => match us, hl with | [_], _ => rfl
  have F7 := fun_mk (st := sPairs) l7 c7 k7
  have b7 := F7.binds (ps := ["one", "other"]) fun _ _ _ _ _ _ us hl => match us, hl with | [_, _], _ => rfl
  have F8 := fun_mk (st := sBetween) l8 c8 k8
  have b8 := F8.binds (ps := ["one", "other", "row"]) fun _ _ _ _ _ _ us hl => match us, hl with | [_, _, _], _ => rfl
  have F9 := fun_mk (st := sFar) l9 c9 k9
  have b9 := F9.binds (ps := ["one", "other"]) fun _ _ _ _ _ _ us hl => match us, hl with | [_, _], _ => rfl
  have F10 := fun_mk (st := sPen) l10 c10 k10
  have b10 := F10.binds (ps := ["script"]) fun _ _ _ _ _ _ us hl => match us, hl with | [_], _ => rfl
  have F11 := fun_mk (st := sDraw) l11 c11 k11
  have b11 := F11.binds (ps := ["pen", "many"]) fun _ _ _ _ _ _ us hl => match us, hl with | [_, _], _ => rfl
  have F12 := fun_mk (st := sPick) l12 c12 k12
  have b12 := F12.binds (ps := ["pen", "some"]) fun _ _ _ _ _ _ us hl => match us, hl with | [_, _], _ => rfl
  have F13 := fun_mk (st := sShuf) l13 c13 k13
  have b13 := F13.binds (ps := ["pen", "some"]) fun _ _ _ _ _ _ us hl => match us, hl with | [_, _], _ => rfl
  have F14 := fun_mk (st := sHands) l14 c14 k14
  have b14 := F14.binds (ps := ["pen", "many"]) fun _ _ _ _ _ _ us hl => match us, hl with | [_, _], _ => rfl
  have F15 := fun_mk (st := sLawEx) l15 c15 k15
  have b15 := F15.binds (ps := ["row", "place"]) fun _ _ _ _ _ _ us hl => match us, hl with | [_, _], _ => rfl
  have F16 := fun_mk (st := sLawTurned) l16 c16 k16
  have b16 := F16.binds (ps := ["one", "other"]) fun _ _ _ _ _ _ us hl => match us, hl with | [_, _], _ => rfl
  have F17 := fun_mk (st := sLawRow) l17 c17 k17
  have b17 := F17.binds (ps := ["pen", "hands"]) fun _ _ _ _ _ _ us hl => match us, hl with | [_, _], _ => rfl
  have F18 := fun_mk (st := sAmid) l18 c18 k18
  have b18 := F18.binds (ps := ["pen", "one", "other"]) fun _ _ _ _ _ _ us hl => match us, hl with | [_, _, _], _ => rfl
  have F19 := fun_mk (st := sRefused3) l19 c19 k19
  have b19 := F19.binds (ps := ["one", "other", "third"]) fun _ _ _ _ _ _ us hl => match us, hl with | [_, _, _], _ => rfl
  have F20 := fun_mk (st := sLaw4) l20 c20 k20
  have b20 := F20.binds (ps := ["script"]) fun _ _ _ _ _ _ us hl => match us, hl with | [_], _ => rfl
  refine ⟨PySem.W.fnOf "law" "law" (defArgs sLaw4) (defBody sLaw4) (defScope sLaw4) .none kV20 dc20 pm20 an20 cd20 ct20, fun s v => .of_eq rfl, fun base _ _ => ?_⟩
  have dCp0 : Df l.prog w K mg base CX0 "copied" 1 f1 _ ["thing"] spCopied0 := ⟨ok_copied0 F1 B2, PySem.W.mg_of X G a1, k1, b1⟩
  have dCp1 : Df l.prog w K mg base CX0 "copied" 2 f1 _ ["thing"] spCopied1 := ⟨ok_copied1 F1 B2 dCp0, PySem.W.mg_of X G a1, k1, b1⟩
  have dIsHand : Df l.prog w K mg base CX0 "is_hand" 1 f2 _ ["thing"] spIsHand := ⟨ok_isHand F2 B2, PySem.W.mg_of X G a2, k2, b2⟩
  have dAre : Df l.prog w K mg base CX0 "are_hands" 2 f3 _ ["thing"] spAreHands := ⟨ok_areHands F3 B2 dIsHand, PySem.W.mg_of X G a3, k3, b3⟩
  have dIsRow : Df l.prog w K mg base CX0 "is_row" 1 f4 _ ["hands", "thing"] spIsRow := ⟨ok_isRow F4 B2, PySem.W.mg_of X G a4, k4, b4⟩
  have dCheckRow : Df l.prog w K mg base (L2.CX l.prog w) "check_row" 3 f5 _ ["hands", "row"] (spCheckRow C) := ⟨ok_checkRow F5 T dCp1 dIsRow, PySem.W.mg_of X G a5, k5, b5⟩
  have dCheck : Df l.prog w K mg base (L2.CX l.prog w) "check_rows" 4 f6 _ ["rows"] (spCheck C) := ⟨ok_check F6 T dAre dCp1 dCheckRow, PySem.W.mg_of X G a6, k6, b6⟩
  have dPairs : Df l.prog w K mg base CX0 "turned_pairs" 1 f7 _ ["one", "other"] spPairs := ⟨ok_pairs F7 B2, PySem.W.mg_of X G a7, k7, b7⟩
  have dFar : Df l.prog w K mg base CX0 "far" 2 f9 _ ["one", "other"] spFar := ⟨ok_far F9 B2 dPairs, PySem.W.mg_of X G a9, k9, b9⟩
  have dBtw : Df l.prog w K mg base (L2.CX l.prog w) "is_between" 5 f8 _ ["one", "other", "row"] (spBetween C) := ⟨ok_between F8 dCheck dFar, PySem.W.mg_of X G a8, k8, b8⟩
  have dPen : Df l.prog w K mg base CX0 "_law_pen" 1 f10 _ ["script"] (spPen K) := ⟨ok_pen F10 B2, PySem.W.mg_of X G a10, k10, b10⟩
  have dDraw : Df l.prog w K mg base CX0 "_law_draw" 1 f11 _ ["pen", "many"] spDraw := ⟨ok_draw F11 B1, PySem.W.mg_of X G a11, k11, b11⟩
  have dPick : Df l.prog w K mg base CX0 "_law_pick" 2 f12 _ ["pen", "some"] (spPick K) := ⟨ok_pick F12 B1 dDraw, PySem.W.mg_of X G a12, k12, b12⟩
  have dShuf : Df l.prog w K mg base CX0 "_law_shuffled" 2 f13 _ ["pen", "some"] (spShuf K) := ⟨ok_shuf F13 B1 dDraw, PySem.W.mg_of X G a13, k13, b13⟩
  have dHands : Df l.prog w K mg base CX0 "_law_hands" 3 f14 _ ["pen", "many"] (spHands K) := ⟨ok_hands F14 B1 B2.range dDraw dPick, PySem.W.mg_of X G a14, k14, b14⟩
  have dCh : Df l.prog w K mg base CX0 "_law_changed" 1 f15 _ ["row", "place"] spExchF := ⟨ok_lawExF F15, PySem.W.mg_of X G a15, k15, b15⟩
  have dLT : Df l.prog w K mg base CX0 "_law_turned" 1 f16 _ ["one", "other"] spLawTurned := ⟨ok_lawTurned F16 B2, PySem.W.mg_of X G a16, k16, b16⟩
  have dRow : Df l.prog w K mg base CX0 "_law_row" 3 f17 _ ["pen", "hands"] spLawRow := ⟨ok_lawRow F17 B2 dShuf, PySem.W.mg_of X G a17, k17, b17⟩
  have dAmid : Df l.prog w K mg base CX0 "_law_amid" 3 f18 _ ["pen", "one", "other"] spAmid := ⟨ok_amid F18 B2 dDraw dPick dCh, PySem.W.mg_of X G a18, k18, b18⟩
  have dRef : Df l.prog w K mg base CX0 "_law_refused" 6 f19 _ ["one", "other", "third"] spRefused3 := ⟨ok_refused3 F19 T dBtw, PySem.W.mg_of X G a19, k19, b19⟩
  exact ok_law4 F20 B2 (PySem.W.mg_none_of X G z_bool) (PySem.W.mg_none_of X G z_zip) ⟨dPen, dDraw, dHands, dRow, dAmid, dBtw, dLT, dCh, dPick, dRef⟩
theorem walk {l : PySem.W.OpenLaw} {q : Program} {loose : List Str} {XP : (Str → Option Value) → Heap → Prop} {YP : World → Heap → Prop} {d : DefRec} {K : Params → PySem.W.Frag} (hn : l.most = some 63) (hdf : d.params.defaults = [])
    (hY : ∀ (w : World) (h : Heap), YP w h → (K w.params).In h)
    (F : ∀ (w : World) (mg : Str → Option Value) (fa : Addr) (h : Heap), (K w.params).In h → h.Ns mainGlobals mg → mg d.name = some (.ref fa) →
      ∃ fd : FuncData, (∀ (s : Shared) (u : Value), BindsTo s fd ⟨[u], []⟩ [("script", u)]) ∧ ∀ base : Heap, (K w.params).In base → base.Ns mainGlobals mg → FnOk l.prog w (K w.params) mg base CX0 7 fa fd ["script"] (spLaw (K w.params))) :
    PySem.W.WalkO q loose XP YP l.row.toRowW d [] (fun f vs => PySem.call f vs) :=
  L2.walk_of (n := 63) (k := 7) (x := "script") (CX := fun _ => CX0) (sp := fun w => spLaw (K w.params)) hn (by decide) hdf ⟨rfl, by decide, by decide⟩ hY F (fun _ _ a ns hl _ hS => ⟨a, ns, rfl, hS, hl, fun _ => rfl⟩) fun _ _ _ _ _ z => z
end Ah
open PySem PySem.W PyProof.Rows in
set_option maxRecDepth 100000 in
set_option maxHeartbeats 0 in
theorem PySem.Challenge.cw_aheadbook_k04_rows_between_holds : PySem.Challenge.rw_aheadbook_k04_rows_between.Holds := by
  w_on; o_law; k_head; (case hw => w_witness2)
  k_fill
  refine Ah.walk (l := PySem.Challenge.rw_aheadbook_k04_rows_between) rfl rfl (fun w h Y => PySem.W.kIn_of Y) ?F
  case F =>
    intro w mg fa h KX G hmg
    refine' Ah.all_mk KX G hmg ?aC ?xL ?sa ?ga ?gg ?nb ?a0 ?t0 ?l0 ?c0 ?kC ?eC ?tC ?hC ?iC ?sC ?a1 ?l1 ?c1 ?k1 ?a2 ?l2 ?c2 ?k2 ?a3 ?l3 ?c3 ?k3 ?a4 ?l4 ?c4 ?k4 ?a5 ?l5 ?c5 ?k5 ?a6 ?l6 ?c6 ?k6 ?a7 ?l7 ?c7 ?k7 ?a8 ?l8 ?c8 ?k8 ?a9 ?l9 ?c9 ?k9 ?a10 ?l10 ?c10 ?k10 ?a11 ?l11 ?c11 ?k11 ?a12 ?l12 ?c12 ?k12 ?a13 ?l13 ?c13 ?k13 ?a14 ?l14 ?c14 ?k14 ?a15 ?l15 ?c15 ?k15 ?a16 ?l16 ?c16 ?k16 ?a17 ?l17 ?c17 ?k17 ?a18 ?l18 ?c18 ?k18 ?a19 ?l19 ?c19 ?k19 ?a20 ?l20 ?c20 ?k20 ?mH ?mL ?z_len ?z_abs ?z_list ?z_isinstance ?z_str ?z_tuple ?z_dict ?z_all ?z_set ?z_enumerate ?z_sorted ?z_range ?z_bool ?z_zip
    (case aC => k_is)
    (case xL => k_is)
    (case sa => k_is)
    (case ga => k_is)
    (case gg => k_is)
    (case nb => k_is)
    (case a0 => k_is)
    (case t0 => k_is)
    (case l0 => k_is)
    (case c0 => k_is)
    (case kC => k_is)
    (case eC => k_is)
    (case tC => k_is)
    (case hC => k_is)
    (case iC => k_is)
    (case sC => first | rfl | k_is)
    (case a1 => k_is)
    (case l1 => k_is)
    (case c1 => k_is)
    (case k1 => k_is)
    (case a2 => k_is)
    (case l2 => k_is)
    (case c2 => k_is)
    (case k2 => k_is)
    (case a3 => k_is)
    (case l3 => k_is)
    (case c3 => k_is)
    (case k3 => k_is)
    (case a4 => k_is)
    (case l4 => k_is)
    (case c4 => k_is)
    (case k4 => k_is)
    (case a5 => k_is)
    (case l5 => k_is)
    (case c5 => k_is)
    (case k5 => k_is)
    (case a6 => k_is)
    (case l6 => k_is)
    (case c6 => k_is)
    (case k6 => k_is)
    (case a7 => k_is)
    (case l7 => k_is)
    (case c7 => k_is)
    (case k7 => k_is)
    (case a8 => k_is)
    (case l8 => k_is)
    (case c8 => k_is)
    (case k8 => k_is)
    (case a9 => k_is)
    (case l9 => k_is)
    (case c9 => k_is)
    (case k9 => k_is)
    (case a10 => k_is)
    (case l10 => k_is)
    (case c10 => k_is)
    (case k10 => k_is)
    (case a11 => k_is)
    (case l11 => k_is)
    (case c11 => k_is)
    (case k11 => k_is)
    (case a12 => k_is)
    (case l12 => k_is)
    (case c12 => k_is)
    (case k12 => k_is)
    (case a13 => k_is)
    (case l13 => k_is)
    (case c13 => k_is)
    (case k13 => k_is)
    (case a14 => k_is)
    (case l14 => k_is)
    (case c14 => k_is)
    (case k14 => k_is)
    (case a15 => k_is)
    (case l15 => k_is)
    (case c15 => k_is)
    (case k15 => k_is)
    (case a16 => k_is)
    (case l16 => k_is)
    (case c16 => k_is)
    (case k16 => k_is)
    (case a17 => k_is)
    (case l17 => k_is)
    (case c17 => k_is)
    (case k17 => k_is)
    (case a18 => k_is)
    (case l18 => k_is)
    (case c18 => k_is)
    (case k18 => k_is)
    (case a19 => k_is)
    (case l19 => k_is)
    (case c19 => k_is)
    (case k19 => k_is)
    (case a20 => k_is)
    (case l20 => k_is)
    (case c20 => k_is)
    (case k20 => k_is)
    (case mH => k_is)
    (case mL => k_is)
    (case z_len => k_is)
    (case z_abs => k_is)
    (case z_list => k_is)
    (case z_isinstance => k_is)
    (case z_str => k_is)
    (case z_tuple => k_is)
    (case z_dict => k_is)
    (case z_all => k_is)
    (case z_set => k_is)
    (case z_enumerate => k_is)
    (case z_sorted => k_is)
    (case z_range => k_is)
    (case z_bool => k_is)
    (case z_zip => k_is)
