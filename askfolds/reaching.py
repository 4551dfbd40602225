"""What is reached."""


def answers_term(form):
    """Tell the ANSWERS TERM of the FORM, which comes to how many pairs there are."""
    return 0, tuple(("where", ("given", question[0]), 1) for question in form)
