"""A pass over a model's blocks: folded, decided, made short, and without the dead and idle ones."""
