"""Texts in their order: shorter first, then ascending."""


def shorter_first(texts):
    """The list of texts in this order."""
    return sorted(sorted(texts), key=len)


def first_text(signs, begun, step, is_over):
    """The first text that leads from a beginning to where it is over, or None if none does.

    What a text leads to can be a key of a dict; step(place, sign) tells where a sign leads.
    """
    if is_over(begun):
        return ""
    seen = {begun: True}
    layer = [("", begun)]
    while layer:
        further = []
        for text, place in layer:
            for sign in signs:
                behind = step(place, sign)
                if is_over(behind):
                    return text + sign
                # What an earlier text has led to already leads on by the same texts.
                if behind not in seen:
                    seen[behind] = True
                    further.append((text + sign, behind))
        layer = further
    return None
