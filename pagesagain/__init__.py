"""Pages that tell the last deeds again."""
