"""Folds unfolded: each piece's questions by themselves, with the figure of their place.

Blocks are a dict from each block's name to the block, marks a dict from each name of a body to the one with its figure.
"""

from askfolds.folds import is_block, item_kind, spot_answers, spots


def unfolded(fold):
    """Tell the UNFOLDED FORM of the FOLD."""
    blocks = blocks_of(fold)
    found = []
    for item in fold:
        found.append((item[0], item_kind(item), flat_in(blocks, {}, item[2])))
        if is_block(item):
            found.extend(flat_body(item))
    return tuple(found)


def flat_sentence(fold, sentence):
    """Tell the FOLD SENTENCE unfolded."""
    return flat_in(blocks_of(fold), {}, sentence)


def flat_term(fold, term):
    """Tell the FOLD TERM unfolded."""
    return flat_term_in(blocks_of(fold), {}, term)


def flat_store(fold, store):
    """Tell the STORE of the UNFOLDED FORM that has the answers of all SPOTS."""
    answered = spot_answers(fold, store)
    return tuple((flat_name(spot), answered[spot]) for spot in spots(fold, store) if spot in answered)


def flat_name(spot):
    """Tell the NAME of the SPOT in the UNFOLDED FORM."""
    return f"{spot[0]}{spot[1]}" if isinstance(spot, tuple) else spot


def blocks_of(fold):
    """Tell the BLOCKS of the FOLD by their names."""
    return {item[0]: item for item in fold if is_block(item)}


def flat_body(block):
    """Tell the QUESTIONS of all PIECES that the BLOCK may have."""
    found = []
    for place in range(block[1]):
        marks = marks_at(block, place)
        for name, kind, wish in block[3]:
            found.append((marks[name], kind, ("all", (there(block, place), flat_in({}, marks, wish)))))
    return found


def marks_at(block, place):
    """Tell the names of the BLOCK's body with the figure of the place."""
    return {question[0]: flat_name((question[0], place)) for question in block[3]}


def there(block, place):
    """Tell the SENTENCE that there is a PIECE at this place."""
    return "least", (0, (("times", block[0], 1),)), place + 1


def flat_in(blocks, marks, sentence):
    """Tell the SENTENCE with its names marked and its PIECES PARTS unfolded."""
    word, about = sentence[0], sentence[1]
    if word == "least":
        return word, flat_term_in(blocks, marks, about), sentence[2]
    if word == "not":
        return word, flat_in(blocks, marks, about)
    if word in ("all", "any"):
        return word, tuple(flat_in(blocks, marks, inner) for inner in about)
    return (word, marks.get(about, about)) + sentence[2:]


def flat_term_in(blocks, marks, term):
    """Tell the TERM with its names marked and its PIECES PARTS unfolded."""
    return term[0], tuple(flat for part in term[1] for flat in flat_parts(blocks, marks, part))


def flat_parts(blocks, marks, part):
    """Tell the PARTS into which a PART is unfolded, a list."""
    word, about, weight = part
    if word == "pieces":
        return pieces_parts(blocks[about], weight)
    if word == "where":
        return [(word, flat_in(blocks, marks, about), weight)]
    return [(word, marks.get(about, about), weight)]


def pieces_parts(block, term):
    """Tell the PARTS of a PIECES PART, PIECE by PIECE."""
    found = []
    for place in range(block[1]):
        found.append(("where", there(block, place), term[0]))
        for part in flat_term_in({}, marks_at(block, place), term)[1]:
            found.append(part_there(there(block, place), part))
    return found


def part_there(sentence, part):
    """Tell the PART as it counts where its PIECE is there, as the SENTENCE tells."""
    # A name of a PIECE that isn't there has no answer: "where" alone could count without it.
    if part[0] != "where":
        return part
    return "where", ("all", (sentence, part[1])), part[2]
