"""Numbers in figures, as they stand in texts that are read."""

FIGURES = "0123456789"


def are_figures(text):
    return text != "" and all([sign in FIGURES for sign in text])


def read_figures(text, least, most):
    # The length is asked first, as Python refuses to read a very long number.
    if len(text) > len(str(most)) or not are_figures(text):
        return None
    if text[0] == "0" and text != "0":
        return None
    number = int(text)
    return number if least <= number <= most else None
