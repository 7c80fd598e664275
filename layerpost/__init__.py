"""Layerpost: letters over a net in layers, with the greatest delay told exactly."""
