"""The refusals of everyplace."""


# Whoever asks can take every refusal by this one name.
class FormError(ValueError):
    pass


class TooGreat(FormError):
    pass


class NoText(FormError):
    pass


class NoRow(FormError):
    pass


class NoStep(FormError):
    pass
