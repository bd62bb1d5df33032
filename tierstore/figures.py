"""Numbers in figures, as they stand in texts."""

FIGURES = "0123456789"


def are_figures(text):
    return text != "" and all([sign in FIGURES for sign in text])


def padded(number, width):
    return str(number).zfill(width)


def read_padded(text, least, most):
    if not are_figures(text):
        return None
    number = int(text)
    return number if least <= number <= most else None


def read_figures(text, least, most):
    # The length is asked first, as Python refuses to read a very long number.
    if len(text) > len(str(most)):
        return None
    if text.startswith("0") and text != "0":
        return None
    return read_padded(text, least, most)
