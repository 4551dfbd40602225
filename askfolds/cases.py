"""Cases for a claim from known answers, or a store against it."""

from askfolds.boxes import parts, whole
from askfolds.casechecker import is_right
from askfolds.corners import lowest_store
from askfolds.showing import view
from askfolds.splitting import unlike_split, unsure_split
from askfolds.surely import facts_in
from askfolds.views import value


def claim_cases(form, known, claim):
    """Tell ("cases", CASES) where the CLAIM HOLDS FROM the known answers, else ("against", a WHOLE STORE)."""
    sentence, term, number = claim
    waiting = [whole(form, known)]
    rows = []
    while waiting:
        box = waiting.pop()
        if is_right(form, box, claim):
            rows.append(("leaf",))
            continue
        row = unsure_split(form, box, sentence, term)
        if not row:
            store = lowest_store(form, box, term)
            seen = view(form, store)
            if value(seen, term) < number:
                return "against", store
            row = unlike_split(facts_in(form, box), term, dict(seen))
        rows.append(row)
        waiting.extend(parts(form, box, row)[::-1])
    return "cases", tuple(rows)
